/-
  What the map of package part's Parts says: of each byte the class of those that are alike and came ahead; a set in a slice of the call's own stored anew. Conditions: those that each names.
-/
import Derived.Test.YtjfjfbefhdabeaaDoorPartMarks
import Derived.Maps.OwnSet
import Derived.Maps.OwnOps
import Derived.Maps.Views
import Derived.Laws.OwnMore
import Derived.Deep.AppendLies
namespace Go.Proofs.YtjfjfbefhdabeaaDoor
open Go.RowKit Go.Maps

/-- What the marks of a byte read as. -/
def keyL (L : List (Nat → Bool)) (b : Nat) : Lit := .string ((marksN L b).map fun n => UInt8.ofNat n.toNat)
theorem keyL_key (L : List (Nat → Bool)) (b : Nat) : WideAt.IsKeyLit (keyL L b) := trivial
theorem keyL_iff (L : List (Nat → Bool)) (a b : Nat) : keyL L a = keyL L b ↔ alk L a b = true := by
  unfold keyL marksN
  rw [Lit.string.injEq, List.map_map, List.map_map, List.map_inj_left, alk_iff]
  refine forall_congr' fun S => forall_congr' fun _ => ?_
  simp only [Function.comp]
  cases S a <;> cases S b <;> decide

/-- The map behind the bytes below k. -/
structure MapInv {H : Type} (L : List (Nat → Bool)) (k : Nat) (D : DataW H) : Prop where
  map : IsMap D
  has : ∀ b, Maps.has D (keyL L b) = (reps L k).any (fun r => alk L r b)
  at' : ∀ b, Maps.has D (keyL L b) = true → D.atKey (keyL L b) (.lit (.int .i64 0)) = .lit (.int .i64 (((reps L k).findIdx fun r => alk L r b : Nat) : Int))
theorem MapInv.zero {H : Type} (L : List (Nat → Bool)) : MapInv L 0 (.map [] : DataW H) := ⟨isMap_empty, fun b => rfl, fun b h => by cases h⟩
theorem MapInv.old {H : Type} {L : List (Nat → Bool)} {k : Nat} {D : DataW H} (h : MapInv L k D) (hh : Maps.has D (keyL L k) = true) : MapInv L (k + 1) D := by
  have : cls L k < (reps L k).length := (findIdx_any _ _).1 (by rw [← h.has]; exact hh)
  exact ⟨h.map, by rw [reps_old this]; exact h.has, by rw [reps_old this]; exact h.at'⟩
theorem MapInv.lt {H : Type} {L : List (Nat → Bool)} {k : Nat} {D : DataW H} (h : MapInv L k D) (hh : Maps.has D (keyL L k) = true) : cls L k < nx (cls L) k := by
  rw [nx_cls]; exact (findIdx_any _ _).1 (by rw [← h.has]; exact hh)
theorem MapInv.eq {H : Type} {L : List (Nat → Bool)} {k : Nat} {D : DataW H} (h : MapInv L k D) (hh : Maps.has D (keyL L k) = false) : cls L k = nx (cls L) k := by
  have h1 := cls_le L k
  have : ¬ cls L k < (reps L k).length := fun e => by
    have := (findIdx_any _ _).2 e
    rw [← h.has, hh] at this; cases this
  rw [nx_cls]; omega
theorem MapInv.new {H : Type} {L : List (Nat → Bool)} {k : Nat} {D : DataW H} (h : MapInv L k D) (hh : Maps.has D (keyL L k) = false) : MapInv L (k + 1) (D.put (keyL L k) (.lit (.int .i64 ((nx (cls L) k : Nat) : Int)))) := by
  have hn : ¬ cls L k < (reps L k).length := by have := h.eq hh; rw [nx_cls] at this; omega
  refine ⟨h.map.put _ _, fun b => ?_, fun b hb => ?_⟩
  · rw [reps_new hn, List.any_append]
    cases hk : alk L k b with
    | true =>
      rw [← (keyL_iff L k b).2 hk, has_put_same h.map (keyL_key L k)]
      simp [hk]
    | false =>
      rw [has_put_other (fun e => by rw [(keyL_iff L k b).1 e.symm] at hk; cases hk), h.has b]
      simp [hk]
  · rw [reps_new hn]
    cases hk : alk L k b with
    | true =>
      rw [← (keyL_iff L k b).2 hk, atKey_put_same h.map (keyL_key L k), nx_cls]
      have : (reps L k).findIdx (fun r => alk L r b) = (reps L k).length := by
        rw [List.findIdx_eq_length]
        intro r hr
        cases e : alk L r b with
        | false => rfl
        | true =>
          have h1 := alk_trans e (alk_symm hk)
          have h2 := h.has k
          rw [hh] at h2
          have h3 : (reps L k).any (fun r => alk L r k) = true := List.any_eq_true.2 ⟨r, hr, h1⟩
          rw [h3] at h2; cases h2
      rw [List.findIdx_append, this]
      simp [hk]
    | false =>
      have hne : keyL L b ≠ keyL L k := fun e => by rw [(keyL_iff L k b).1 e.symm] at hk; cases hk
      rw [has_put_other hne] at hb
      rw [atKey_put_other hne, h.at' b hb, List.findIdx_append]
      rw [h.has b, findIdx_any] at hb
      simp [hb]

theorem law_str : Keyed Tryd.prog 9 := string_keyed Tryd.underlying9
theorem zero_int (w : World) : (zeroValue 3).run Tryd.prog w = .ok (.int .i64 0) w := by kernel_rfl

/-- A look-up of which is known what it gives. -/
theorem lookup_known {H : Type} {P : Program} (w : World) {ops : Array Oper} {rest : List Oper} {o : Oper} {a : Act} {Q : Exit → Act → World → Prop} (hg : o.guard = none) (m x : Operand) (t : TypeId) (hop : o.op = Op.lookup t m x true)
    (k e : TypeId) (q : IntKind) (K : Keyed P k) (ht : P.underlying t = some (.map k e)) (he : P.underlying e = some (.int q)) (hz : (zeroValue e).run P w = .ok (.int q 0) w) (b n : Nat) (D : DataW H)
    (hm : a.eval m = .map (some b)) (hown : w.ownsMap P k (plainElem P e) b n D) (key : Value) (kl : Lit) (hx : a.eval x = key) (hkey : keyOf P k key = some kl)
    (c : Int) (h : Bool) (hc : D.atKey kl (.lit (.int q 0)) = .lit (.int q c)) (hh : Maps.has D kl = h)
    (hK : wpList P ops Q rest (a.put o.dst (.tuple #[.int q c, .bool h])) w) :
    wpList P ops Q (o :: rest) a w :=
  wpList_lookup_own_ok_int w hg m x t hop k e q K ht he hz b n D hm hown key kl hx hkey fun c' h' _ => by
    rw [hc] at h'
    cases h'
    rw [hh]
    exact hK

/-- A set of the row stored anew. -/
theorem setCells_set : ∀ (P : List (Nat → Bool)) (i : Nat) (S : Nat → Bool), i < P.length →
    ((((setCells P).set (i * 4) (.int .u64 ((wd S 0 : Nat) : Int))).set (i * 4 + 1) (.int .u64 ((wd S 1 : Nat) : Int))).set (i * 4 + 2) (.int .u64 ((wd S 2 : Nat) : Int))).set (i * 4 + 3) (.int .u64 ((wd S 3 : Nat) : Int)) = setCells (P.set i S)
  | [], i, S, h => by simp at h
  | x :: r, 0, S, _ => rfl
  | x :: r, i + 1, S, h => by
    have := setCells_set r i S (by simpa using h)
    rw [show (i + 1) * 4 = i * 4 + 1 + 1 + 1 + 1 by omega]
    simpa [setCells] using this
/-- The world behind the store of a set. -/
abbrev put4 (w : World) (g o : Nat) (S : Nat → Bool) : World :=
  (((w.setCell ⟨g, o, none⟩ (.int .u64 ((wd S 0 : Nat) : Int))).setCell ⟨g, o + 1, none⟩ (.int .u64 ((wd S 1 : Nat) : Int))).setCell ⟨g, o + 2, none⟩ (.int .u64 ((wd S 2 : Nat) : Int))).setCell ⟨g, o + 3, none⟩ (.int .u64 ((wd S 3 : Nat) : Int))
theorem owns_put4 {w : World} {base g n cap : Nat} {P : List (Nat → Bool)} (h : w.ownsRow base 35 4 (.slice (some ⟨g, 0, none⟩) n cap) n (setCells P)) (i : Nat) (S : Nat → Bool) (hi : i < P.length) :
    (put4 w g (i * 4) S).ownsRow base 35 4 (.slice (some ⟨g, 0, none⟩) n cap) n (setCells (P.set i S)) := by
  have h1 := ((((h.stored (i * 4) (.int .u64 ((wd S 0 : Nat) : Int))).1.stored (i * 4 + 1) (.int .u64 ((wd S 1 : Nat) : Int))).1.stored (i * 4 + 2) (.int .u64 ((wd S 2 : Nat) : Int))).1.stored (i * 4 + 3) (.int .u64 ((wd S 3 : Nat) : Int))).1
  rwa [setCells_set P i S hi] at h1
theorem below_put4 {w0 w : World} {n g : Nat} (h : Below n w0 w) (hg : n ≤ g) (o : Nat) (S : Nat → Bool) : Below n w0 (put4 w g o S) :=
  (((h.setCell (p := ⟨g, _, none⟩) hg _).setCell (p := ⟨g, _, none⟩) hg _).setCell (p := ⟨g, _, none⟩) hg _).setCell (p := ⟨g, _, none⟩) hg _
theorem owns_cells {w : World} {base g n cap : Nat} {P : List (Nat → Bool)} (h : w.ownsRow base 35 4 (.slice (some ⟨g, 0, none⟩) n cap) n (setCells P)) (hn : P.length = n) (i : Nat) (hi : i < n) : C4At w g (i * 4) (P.getD i no) := by
  have := setCells_get P i (by omega)
  exact ⟨(h.cellAt _ (by omega)).trans this.1, (h.cellAt _ (by omega)).trans this.2.1, (h.cellAt _ (by omega)).trans this.2.2.1, (h.cellAt _ (by omega)).trans this.2.2.2⟩
theorem owns_cellsQ {w : World} {base g n cap : Nat} {P : List (Nat → Bool)} {Q : Nat → Bool} (h : w.ownsRow base 35 4 (.slice (some ⟨g, 0, none⟩) n cap) n (setCells P)) (hn : P.length = n) (i : Nat) (hi : i < n) (hQ : Hid (P.getD i no = Q)) : C4At w g (i * 4) Q := by
  rw [← hQ.out]; exact owns_cells h hn i hi
/-- A slice of the call's own is a slice. -/
theorem owns_slice {w : World} {base size n : Nat} {e : TypeId} {v : Value} {xs : List Value} (h : w.ownsRow base e size v n xs) : ∃ ao cap, v = .slice ao n cap := by
  rcases h.2 with ⟨rfl, rfl⟩ | ⟨g, cap, cur, rfl, _⟩
  · exact ⟨none, 0, rfl⟩
  · exact ⟨_, cap, rfl⟩
theorem or_of (S : Nat → Bool) (x : Nat) : cor S (ofL [x]) = upd S x := by
  funext i
  unfold cor upd ofL
  have e : (i == x) = decide (i = x) := by rw [Bool.eq_iff_iff]; simp
  simp [e]
/-- The map's block is no row's. -/
theorem map_row {H : Type} {w : World} {R : Value → Option (DataW H × List MemPlace)} {k e : TypeId} {base b n m size : Nat} {D : DataW H} {v : Value} {xs : List Value} (h : w.ownsMap Tryd.prog k R b n D) (hr : w.ownsRow base e size v m xs) : some b ≠ v.ownBlock := by
  obtain ⟨es, clock, hb, _⟩ := h
  rcases hr.2 with ⟨rfl, _⟩ | ⟨g, cap, cur, rfl, _, hg, _⟩
  · simp [Value.ownBlock]
  · intro e'
    obtain rfl : b = g := by simpa [Value.ownBlock] using e'
    rw [hb] at hg; cases hg
theorem ownsMap_belowN {H : Type} {w w' : World} {R : Value → Option (DataW H × List MemPlace)} {k : TypeId} {b n m : Nat} {D : DataW H} (h : w.ownsMap Tryd.prog k R b n D) (hb : Below m w w') (hm : b < m) : w'.ownsMap Tryd.prog k R b n D := by
  obtain ⟨es, clock, hh, r⟩ := h
  exact ⟨es, clock, (hb.block b hm).trans hh, r⟩
theorem ownsMap_below {H : Type} {w w' : World} {R : Value → Option (DataW H × List MemPlace)} {k : TypeId} {b n : Nat} {D : DataW H} (h : w.ownsMap Tryd.prog k R b n D) (hb : Below w.heap.size w w') : w'.ownsMap Tryd.prog k R b n D := by
  have hl := h.lt
  obtain ⟨es, clock, hh, r⟩ := h
  exact ⟨es, clock, (hb.block b hl).trans hh, r⟩
end Go.Proofs.YtjfjfbefhdabeaaDoor
