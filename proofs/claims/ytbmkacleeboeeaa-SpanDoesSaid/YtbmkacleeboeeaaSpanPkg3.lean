/-
  Package span (the landed code): Rise. Conditions: the row lies in memory as a slice.
-/
import Derived.Test.YtbmkacleeboeeaaSpanPkg2
import Derived.Deep.RegionHeld3
namespace Go.Proofs.Ytbmkacleeboeeaa
open Go.RowKit

/-- Does the second one stand no sooner than the first one? -/
def up (x y : Sp) : Bool := decide (x.1 ≤ y.1 ∧ x.2 ≤ y.2)
theorem up_t {x y : Sp} (h1 : x.1 ≤ y.1) (h2 : x.2 ≤ y.2) : up x y = true := decide_eq_true ⟨h1, h2⟩
theorem up_f {x y : Sp} (h : ¬ (x.1 ≤ y.1 ∧ x.2 ≤ y.2)) : up x y = false := decide_eq_false h
theorem up_iff {x y : Sp} : up x y = true ↔ x.1 ≤ y.1 ∧ x.2 ≤ y.2 := decide_eq_true_iff

/-- What stays while two spans of a row are asked about. -/
abbrev LookP (w : World) (g o1 o2 : Nat) (x y : Sp) (W : World) : Prop :=
  (W.cell? ⟨g, o1, none⟩ = some (.int .i64 x.1) ∧ W.cell? ⟨g, o1 + 1, none⟩ = some (.int .i64 x.2)) ∧ (W.cell? ⟨g, o2, none⟩ = some (.int .i64 y.1) ∧ W.cell? ⟨g, o2 + 1, none⟩ = some (.int .i64 y.2)) ∧ Below w.heap.size w W ∧ g < w.heap.size
theorem LookP.step {w : World} {g o1 o2 : Nat} {x y : Sp} {W W' : World} (h : LookP w g o1 o2 x y W) (hb : Below W.heap.size W W') : LookP w g o1 o2 x y W' := by
  have h1 : Below w.heap.size W W' := hb.mono h.2.2.1.size
  obtain ⟨⟨a, b⟩, ⟨c, d⟩, hB, hg⟩ := h
  exact ⟨⟨(h1.cell (p := ⟨g, _, none⟩) hg).trans a, (h1.cell (p := ⟨g, _, none⟩) hg).trans b⟩, ⟨(h1.cell (p := ⟨g, _, none⟩) hg).trans c, (h1.cell (p := ⟨g, _, none⟩) hg).trans d⟩, hB.trans h1, hg⟩
theorem LookP.b {w : World} {g o1 o2 : Nat} {x y : Sp} {W : World} (h : LookP w g o1 o2 x y W) : Below w.heap.size w W := h.2.2.1
theorem LookP.drew {w : World} {g o1 o2 : Nat} {x y : Sp} {W : World} (h : LookP w g o1 o2 x y W) : LookP w g o1 o2 x y W.drew := ⟨h.1, h.2.1, h.2.2.1.drew, h.2.2.2⟩

theorem up_any (x y : Sp) (w : World) :
    Calls Try.prog 22 #[pv x, pv y] w fun e w' => e = .returned (.bool (up x y)) ∧ Below w.heap.size w w' := by
  by_cases h1 : x.1 ≤ y.1
  · by_cases h2 : x.2 ≤ y.2
    · rw [up_t h1 h2]
      go_enter Try.func22, Try.ntmps22
      go_wp2
      go_ret
      exact ⟨rfl, bal (bal0 _ _) _⟩
    · rw [up_f fun h => h2 h.2]
      go_enter Try.func22, Try.ntmps22
      go_wp2
      go_ret
      exact ⟨rfl, bal (bal0 _ _) _⟩
  · rw [up_f fun h => h1 h.1]
    go_enter Try.func22, Try.ntmps22
    go_wp2
    go_ret
    exact ⟨rfl, bal (bal0 _ _) _⟩

set_option maxRecDepth 100000 in
set_option maxHeartbeats 1000000 in
theorem side_any (ao : Option Addr) (len cap : Nat) (L : List Sp) (hl : L.length = len) (hm : len ≤ 1099511627776) (w : World) (hS : PAt w ao L w.heap.size) :
    Calls Try.prog 21 #[.slice ao len cap, .func (.func 22) #[] #[]] w fun e w' => e = .returned (.bool (rise L)) ∧ Below w.heap.size w w' := by
  have HC := Lib.hid (show 0 < len → ∃ g off, ao = some ⟨g, off, none⟩ ∧ g < w.heap.size ∧ ∀ i, i < len → ∀ W : World, Below w.heap.size w W → W.cell? ⟨g, off + i * 2, none⟩ = some (.int .i64 (L.getD i (0, 0)).1) ∧ W.cell? ⟨g, off + i * 2 + 1, none⟩ = some (.int .i64 (L.getD i (0, 0)).2) from fun h => by
      obtain ⟨g, off, rfl, hg, hc⟩ := hS (by omega)
      exact ⟨g, off, rfl, hg, fun i hi W hb => ⟨(hb.cell (p := ⟨g, _, none⟩) hg).trans (hc i (by omega)).1, (hb.cell (p := ⟨g, _, none⟩) hg).trans (hc i (by omega)).2⟩⟩)
  have HL := Lib.hid hl
  clear hS hl
  go_enter Try.func21, Try.ntmps21
  go_wp2
  go_loopw [5] (fun i wr => ∃ j : Nat, 1 ≤ j ∧ j ≤ len + 1 ∧ i = .int .i64 j ∧ (∀ k, k + 1 < j → risesAt L k) ∧ Below w.heap.size w wr)
    (fun i _ => len + 1 - (intOf i).toNat)
  case atStart => exact ⟨1, Nat.le_refl _, by omega, rfl, fun k hk => by omega, Below.refl _ _⟩
  case round =>
    obtain ⟨j, hj1, hj, rfl, hr, hB⟩ := hrel
    have HR := Lib.hid hr
    clear hr
    have hw : IntKind.i64.wrap ((j : Int) - 1) = (j : Int) - 1 := IntWalk.i64_in _ (by omega)
    by_cases hlt : j < len
    · obtain ⟨g, off, rfl, hg, hc⟩ := HC.out (by omega)
      have HX := Lib.hid (show risesAt L (j - 1) ↔ up (L.getD (j - 1) (0, 0)) (L.getD j (0, 0)) = true from by
        have : j - 1 + 1 = j := by omega
        unfold risesAt
        rw [this, up_iff])
      have HI : LookP w g (off + (j - 1) * 2) (off + j * 2) (L.getD (j - 1) (0, 0)) (L.getD j (0, 0)) wr.drew := LookP.drew ⟨hc (j - 1) (by omega) wr hB, hc j hlt wr hB, hB, hg⟩
      have i0 : (0 : Int) ≤ (j : Int) := by omega
      have i1 : (j : Int) < (len : Int) := by omega
      have i2 : (0 : Int) ≤ (j : Int) - 1 := by omega
      have i3 : (j : Int) - 1 < (len : Int) := by omega
      have i4 : ((j : Int) - 1).toNat = j - 1 := by omega
      have i5 : (1 : Int) ≤ (j : Int) := by omega
      generalize L.getD (j - 1) (0, 0) = x at *
      generalize L.getD j (0, 0) = y at *
      clear hc
      obtain ⟨⟨e1, e2⟩, f1, f2⟩ := And.intro HI.1 HI.2.1
      go_wp2_with fail
      go_region_held3 (fun W' => (W'.cell? ⟨g, off + (j - 1) * 2, none⟩ = some (.int .i64 x.1) ∧ W'.cell? ⟨g, off + (j - 1) * 2 + 1, none⟩ = some (.int .i64 x.2)) ∧ (W'.cell? ⟨g, off + j * 2, none⟩ = some (.int .i64 y.1) ∧ W'.cell? ⟨g, off + j * 2 + 1, none⟩ = some (.int .i64 y.2)) ∧ Below w.heap.size w W' ∧ g < w.heap.size)
        ((first | with_reducible exact HI | exact LookP.step (by assumption) (by assumption)))
        (first | (go_at_call 22; refine (up_any _ _ _).mono ?_; rintro e w' ⟨rfl, hb⟩))
      clear HI e1 e2 f1 f2
      have HB := Lib.hid (LookP.b (w := w) (g := g) (o1 := off + (j - 1) * 2) (o2 := off + j * 2) (x := x) (y := y) (by assumption))
      cases hu : up x y with
      | true =>
        have HN := Lib.hid (HX.out.2 hu)
        go_wp2
        go_roundw
        case rel =>
          refine ⟨j + 1, by omega, by omega, by go_num, fun k hk => ?_, HB.out⟩
          rcases Nat.lt_or_ge (k + 1) j with h | h
          · exact HR.out k h
          · obtain rfl : k = j - 1 := by omega
            exact HN.out
        case measure => simp [intOf]; omega
      | false =>
        have HF := Lib.hid (rise_false (L := L) (i := j - 1) (by rw [HL.out]; omega) fun h => by rw [HX.out.1 h] at hu; cases hu)
        go_wp2
        go_ret
        exact ⟨by rw [HF.out]; rfl, HB.out⟩
    · have HT := Lib.hid (rise_true (L := L) fun k hk => HR.out k (by rw [HL.out] at hk; omega))
      have i5 : ¬ (j : Int) < (len : Int) := by omega
      go_wp2
      go_ret
      exact ⟨by rw [HT.out]; rfl, hB⟩

theorem rise_any (ao : Option Addr) (len cap : Nat) (L : List Sp) (hl : L.length = len) (hm : len ≤ 1099511627776) (w : World) (hS : PAt w ao L w.heap.size) :
    Calls Try.prog 14 #[.slice ao len cap] w fun e w' => e = .returned (.bool (rise L)) ∧ Below w.heap.size w w' := by
  have H := Lib.hid (side_any ao len cap L hl hm w hS)
  clear hS
  go_enter Try.func14, Try.ntmps14
  go_wp2_with fail
  refine H.out.mono ?_
  rintro e w1 ⟨rfl, hb⟩
  go_wp2
  go_ret
  exact ⟨rfl, hb⟩
end Go.Proofs.Ytbmkacleeboeeaa
