/-
  Slices of sets and slices of numbers in memory; when two sets are equal by Go's ==. Conditions: those that each names.
-/
import Derived.Test.YtjfjfbefhdabeaaDoorPartPlain
import Derived.Test.YtjfjfbefhdabeaaDoorSetOps
import Derived.Test.YtjfjfbefhdabeaaDoorSetRef3
import Derived.Laws.MakeOwn
import Derived.Laws.BytesString
namespace Go.Proofs.YtjfjfbefhdabeaaDoor
open Go.RowKit

/-- The four cells of a set that lies in a slice. -/
def C4At (W : World) (g o : Nat) (S : Nat → Bool) : Prop :=
  W.cell? ⟨g, o, none⟩ = some (.int .u64 ((wd S 0 : Nat) : Int)) ∧ W.cell? ⟨g, o + 1, none⟩ = some (.int .u64 ((wd S 1 : Nat) : Int)) ∧ W.cell? ⟨g, o + 2, none⟩ = some (.int .u64 ((wd S 2 : Nat) : Int)) ∧ W.cell? ⟨g, o + 3, none⟩ = some (.int .u64 ((wd S 3 : Nat) : Int))
theorem C4At.below {W W' : World} {g o n : Nat} {S : Nat → Bool} (h : C4At W g o S) (hb : Below n W W') (hg : g < n) : C4At W' g o S :=
  ⟨(hb.cell (p := ⟨g, _, none⟩) hg).trans h.1, (hb.cell (p := ⟨g, _, none⟩) hg).trans h.2.1, (hb.cell (p := ⟨g, _, none⟩) hg).trans h.2.2.1, (hb.cell (p := ⟨g, _, none⟩) hg).trans h.2.2.2⟩

/-- From the address on lie the sets of L, in a block below the bound. -/
def SAt (W : World) (ao : Option Addr) (L : List (Nat → Bool)) (bd : Nat) : Prop :=
  0 < L.length → ∃ g off, ao = some ⟨g, off, none⟩ ∧ g < bd ∧ ∀ i, i < L.length → C4At W g (off + i * 4) (L.getD i no)
theorem SAt.below {W W' : World} {ao : Option Addr} {L : List (Nat → Bool)} {bd n : Nat} (h : SAt W ao L bd) (hb : Below n W W') (hn : bd ≤ n) : SAt W' ao L bd := by
  intro hp
  obtain ⟨g, off, hg, hlt, hc⟩ := h hp
  exact ⟨g, off, hg, hlt, fun i hi => (hc i hi).below hb (by omega)⟩
theorem SAt.mono {W : World} {ao : Option Addr} {L : List (Nat → Bool)} {bd n : Nat} (h : SAt W ao L bd) (hn : bd ≤ n) : SAt W ao L n := by
  intro hp
  obtain ⟨g, off, hg, hlt, hc⟩ := h hp
  exact ⟨g, off, hg, by omega, hc⟩
/-- From the address on lie the numbers of xs, in a block below the bound. -/
def IAt (W : World) (ao : Option Addr) (xs : List Int) (bd : Nat) : Prop :=
  0 < xs.length → ∃ g off, ao = some ⟨g, off, none⟩ ∧ g < bd ∧ ∀ i, i < xs.length → W.cell? ⟨g, off + i, none⟩ = some (.int .i64 (xs.getD i 0))
theorem IAt.below {W W' : World} {ao : Option Addr} {xs : List Int} {bd n : Nat} (h : IAt W ao xs bd) (hb : Below n W W') (hn : bd ≤ n) : IAt W' ao xs bd := by
  intro hp
  obtain ⟨g, off, hg, hlt, hc⟩ := h hp
  exact ⟨g, off, hg, hlt, fun i hi => (hb.cell (p := ⟨g, _, none⟩) (by simp only; omega)).trans (hc i hi)⟩
theorem IAt.mono {W : World} {ao : Option Addr} {xs : List Int} {bd n : Nat} (h : IAt W ao xs bd) (hn : bd ≤ n) : IAt W ao xs n := by
  intro hp
  obtain ⟨g, off, hg, hlt, hc⟩ := h hp
  exact ⟨g, off, hg, by omega, hc⟩

/-- The cells of a row of sets. -/
def setCells : List (Nat → Bool) → List Value
  | [] => []
  | S :: r => .int .u64 ((wd S 0 : Nat) : Int) :: .int .u64 ((wd S 1 : Nat) : Int) :: .int .u64 ((wd S 2 : Nat) : Int) :: .int .u64 ((wd S 3 : Nat) : Int) :: setCells r
theorem setCells_append (a b : List (Nat → Bool)) : setCells (a ++ b) = setCells a ++ setCells b := by
  induction a with
  | nil => rfl
  | cons x r ih => simp [setCells, ih]
theorem setCells_length (a : List (Nat → Bool)) : (setCells a).length = a.length * 4 := by
  induction a with
  | nil => rfl
  | cons x r ih => simp [setCells, ih]; omega
theorem setCells_get : ∀ (L : List (Nat → Bool)) (i : Nat), i < L.length →
    (setCells L)[i * 4]? = some (.int .u64 ((wd (L.getD i no) 0 : Nat) : Int)) ∧ (setCells L)[i * 4 + 1]? = some (.int .u64 ((wd (L.getD i no) 1 : Nat) : Int)) ∧ (setCells L)[i * 4 + 2]? = some (.int .u64 ((wd (L.getD i no) 2 : Nat) : Int)) ∧ (setCells L)[i * 4 + 3]? = some (.int .u64 ((wd (L.getD i no) 3 : Nat) : Int))
  | [], i, h => by simp at h
  | x :: r, 0, _ => ⟨rfl, rfl, rfl, rfl⟩
  | x :: r, i + 1, h => by
    have := setCells_get r i (by simpa using h)
    rw [show (i + 1) * 4 = i * 4 + 1 + 1 + 1 + 1 by omega]
    simpa [setCells] using this
theorem info_set : (Tryd.prog.info? 35).map (fun i => (i.zero, i.size, i.bytes)) = some (some (.agg zero4), 4, 32) := by kernel_rfl
theorem info_int : (Tryd.prog.info? 3).map (fun i => (i.zero, i.size, i.bytes)) = some (some (.int .i64 0), 1, 8) := by kernel_rfl

/-- A slice of the call's own that holds these sets lies in memory so. -/
theorem SAt.of_owns {W : World} {base : Nat} {v : Value} {L : List (Nat → Bool)} (h : W.ownsRow base 35 4 v L.length (setCells L)) : ∃ ao cap, v = .slice ao L.length cap ∧ SAt W ao L W.heap.size := by
  obtain ⟨hl, h⟩ := h
  rcases h with ⟨rfl, h0⟩ | ⟨g, cap, cur, rfl, _, hb, hn, _, hsz, ht⟩
  · exact ⟨none, 0, by rw [h0], fun hp => by omega⟩
  · refine ⟨_, cap, rfl, fun _ => ⟨g, 0, rfl, lt_of_block hb, fun i hi => ?_⟩⟩
    have hget : ∀ j, j < L.length * 4 → W.cell? ⟨g, j, none⟩ = (setCells L)[j]? := by
      intro j hj
      have : W.cell? ⟨g, j, none⟩ = cur[j]? := by simp [World.cell?, hb]
      rw [this, ← ht, List.getElem?_take_of_lt hj]
      simp
    have := setCells_get L i hi
    rw [Nat.zero_add]
    exact ⟨(hget _ (by omega)).trans this.1, (hget _ (by omega)).trans this.2.1, (hget _ (by omega)).trans this.2.2.1, (hget _ (by omega)).trans this.2.2.2⟩
theorem IAt.of_owns {W : World} {base : Nat} {v : Value} {xs : List Int} (h : W.ownsRow base 3 1 v xs.length (xs.map (Value.int .i64))) : ∃ ao cap, v = .slice ao xs.length cap ∧ IAt W ao xs W.heap.size := by
  obtain ⟨hl, h⟩ := h
  rcases h with ⟨rfl, h0⟩ | ⟨g, cap, cur, rfl, _, hb, hn, _, hsz, ht⟩
  · exact ⟨none, 0, by rw [h0], fun hp => by omega⟩
  · refine ⟨_, cap, rfl, fun _ => ⟨g, 0, rfl, lt_of_block hb, fun i hi => ?_⟩⟩
    have : W.cell? ⟨g, 0 + i, none⟩ = cur[i]? := by simp [World.cell?, hb]
    rw [this]
    have h2 : (cur.toList.take (xs.length * 1))[i]? = (xs.map (Value.int .i64))[i]? := by rw [ht]
    rw [List.getElem?_take_of_lt (by omega)] at h2
    simp [List.getD, hi] at h2 ⊢
    exact h2
theorem take_snoc (L : List (Nat → Bool)) (k : Nat) (h : k < L.length) : L.take (k + 1) = L.take k ++ [L.getD k no] := by
  rw [List.take_succ_eq_append_getElem h]
  simp [List.getD, h]

/-- Equal below 256. -/
def eqs (S T : Nat → Bool) : Bool := (List.range 256).all fun i => S i == T i
theorem eqs_iff (S T : Nat → Bool) : eqs S T = true ↔ ∀ i, i < 256 → S i = T i := by simp [eqs]
theorem wd_eqs (S T : Nat → Bool) : eqs S T = (wd S 0 == wd T 0 && (wd S 1 == wd T 1 && (wd S 2 == wd T 2 && wd S 3 == wd T 3))) := by
  rw [Bool.eq_iff_iff, eqs_iff]
  simp only [Bool.and_eq_true, beq_iff_eq]
  constructor
  · intro h
    exact ⟨wd_ext fun j hj => h _ (by omega), wd_ext fun j hj => h _ (by omega), wd_ext fun j hj => h _ (by omega), wd_ext fun j hj => h _ (by omega)⟩
  · rintro ⟨h0, h1, h2, h3⟩ i hi
    have := wd_inj (S := S) (T := T) (k := i / 64) (by
      have : i / 64 = 0 ∨ i / 64 = 1 ∨ i / 64 = 2 ∨ i / 64 = 3 := by omega
      rcases this with e | e | e | e <;> rw [e] <;> assumption) (i % 64) (by omega)
    rwa [show 64 * (i / 64) + i % 64 = i by omega] at this
theorem eq_sets2 (S T : Nat → Bool) (w : World) : (Op.equalIn 10000 35 (sv S) (sv T)).run Tryd.prog w = .ok (eqs S T) w := by
  have hs : (sizeOf 33).run Tryd.prog w = .ok 1 w := by kernel_rfl
  have p0 : ∀ S, (part 33 (cells4 S) 0).run Tryd.prog w = .ok (.int .u64 ((wd S 0 : Nat) : Int)) w := fun S => by kernel_rfl
  have p1 : ∀ S, (part 33 (cells4 S) 1).run Tryd.prog w = .ok (.int .u64 ((wd S 1 : Nat) : Int)) w := fun S => by kernel_rfl
  have p2 : ∀ S, (part 33 (cells4 S) 2).run Tryd.prog w = .ok (.int .u64 ((wd S 2 : Nat) : Int)) w := fun S => by kernel_rfl
  have p3 : ∀ S, (part 33 (cells4 S) 3).run Tryd.prog w = .ok (.int .u64 ((wd S 3 : Nat) : Int)) w := fun S => by kernel_rfl
  have e : ∀ i : Nat, (Op.equalIn 9999 33 (.int .u64 ((wd S i : Nat) : Int)) (.int .u64 ((wd T i : Nat) : Int))).run Tryd.prog w = .ok (wd S i == wd T i) w := fun i => by
    rw [run_equalIn_int w 9998 33 .u64 .u64 _ _ Tryd.underlying33]
    congr 1
    rw [Bool.eq_iff_iff, beq_iff_eq, beq_iff_eq]; omega
  rw [wd_eqs, show (10000 : Nat) = 9999 + 1 from rfl, Op.equalIn]
  simp only [Sem.run_bind, run_underlying Tryd.underlying35, Result.andThen_ok, hs]
  rw [Std.Legacy.Range.forIn_eq_forIn_range']
  simp [List.range', Std.Legacy.Range.size, Sem.run_bind, p0, p1, p2, p3, e]
  by_cases h0 : wd S 0 = wd T 0 <;> by_cases h1 : wd S 1 = wd T 1 <;> by_cases h2 : wd S 2 = wd T 2 <;> by_cases h3 : wd S 3 = wd T 3 <;> simp [h0, h1, h2, h3]
end Go.Proofs.YtjfjfbefhdabeaaDoor
