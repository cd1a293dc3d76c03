/-
  Spans in the walk: rows of spans in memory; whether a span may be, the hull of two. Conditions: those that each names.
-/
import Derived.Test.YtbmkacleeboeeaaSetKit
import Derived.Test.YtbmkacleeboeeaaSpanPlain
import Derived.Lib.Hide
import Derived.Deep.QuietTactic
import Derived.BigQuiet
import Derived.StillTailTactics
namespace Go.Proofs.Ytbmkacleeboeeaa
open Go.RowKit

/-- A span as a value. -/
abbrev pv (s : Sp) : Value := .agg #[.int .i64 s.1, .int .i64 s.2]
/-- From the address on lie these spans, in a block below the bound. -/
def PAt (W : World) (ao : Option Addr) (L : List Sp) (bd : Nat) : Prop :=
  0 < L.length → ∃ g off, ao = some ⟨g, off, none⟩ ∧ g < bd ∧ ∀ i, i < L.length → W.cell? ⟨g, off + i * 2, none⟩ = some (.int .i64 (L.getD i (0, 0)).1) ∧ W.cell? ⟨g, off + i * 2 + 1, none⟩ = some (.int .i64 (L.getD i (0, 0)).2)
theorem PAt.below {W W' : World} {ao : Option Addr} {L : List Sp} {bd n : Nat} (h : PAt W ao L bd) (hb : Below n W W') (hn : bd ≤ n) : PAt W' ao L bd := by
  intro hp
  obtain ⟨g, off, hg, hlt, hc⟩ := h hp
  exact ⟨g, off, hg, hlt, fun i hi => ⟨(hb.cell (p := ⟨g, _, none⟩) (by simp only; omega)).trans (hc i hi).1, (hb.cell (p := ⟨g, _, none⟩) (by simp only; omega)).trans (hc i hi).2⟩⟩
theorem PAt.mono {W : World} {ao : Option Addr} {L : List Sp} {bd n : Nat} (h : PAt W ao L bd) (hn : bd ≤ n) : PAt W ao L n := by
  intro hp
  obtain ⟨g, off, hg, hlt, hc⟩ := h hp
  exact ⟨g, off, hg, by omega, hc⟩
theorem info_span : (Try.prog.info? 24).map (fun i => (i.zero, i.size, i.bytes)) = some (some (.agg #[.int .i64 0, .int .i64 0]), 2, 16) := by kernel_rfl

theorem rt_t {a b n : Int} (h1 : 0 ≤ a) (h2 : a ≤ b) (h3 : b ≤ n) : rt (a, b) n = true := by unfold rt; exact decide_eq_true ⟨h1, h2, h3⟩
theorem rt_f {a b n : Int} (h : ¬ (0 ≤ a ∧ a ≤ b ∧ b ≤ n)) : rt (a, b) n = false := by unfold rt; exact decide_eq_false h
theorem bal0 (w : World) (o : Obj) : Below w.heap.size w (w.alloc o) := bal (Below.refl _ _) o

theorem refright_any (a b n : Int) (w : World) :
    Calls Try.prog 11 #[pv (a, b), .int .i64 n] w fun e w' => e = .returned (.bool (rt (a, b) n)) ∧ Below w.heap.size w w' := by
  by_cases h1 : 0 ≤ a
  · by_cases h2 : a ≤ b
    · by_cases h3 : b ≤ n
      · rw [rt_t h1 h2 h3]
        go_enter Try.func11, Try.ntmps11
        go_wp2
        go_ret
        exact ⟨rfl, bal0 _ _⟩
      · rw [rt_f fun h => h3 h.2.2]
        go_enter Try.func11, Try.ntmps11
        go_wp2
        go_ret
        exact ⟨rfl, bal0 _ _⟩
    · rw [rt_f fun h => h2 h.2.1]
      go_enter Try.func11, Try.ntmps11
      go_wp2
      go_ret
      exact ⟨rfl, bal0 _ _⟩
  · rw [rt_f fun h => h1 h.1]
    go_enter Try.func11, Try.ntmps11
    go_wp2
    go_ret
    exact ⟨rfl, bal0 _ _⟩

/-- A span stored into a block of its own. -/
theorem Blk.two {W : World} {B : Nat} {t : TypeId} {u v : Value} (h : Blk W B t #[u, v]) (x y : Value) :
    ((W.setCell ⟨B, 0, none⟩ x).setCell ⟨B, 1, none⟩ y).cell? ⟨B, 0, none⟩ = some x ∧ ((W.setCell ⟨B, 0, none⟩ x).setCell ⟨B, 1, none⟩ y).cell? ⟨B, 1, none⟩ = some y :=
  ⟨((h.set 0 x).set 1 y).cell 0, ((h.set 0 x).set 1 y).cell 1⟩
theorem ret_pv {x y : Int} {s : Sp} (h1 : x = s.1) (h2 : y = s.2) : Ending.returned (.agg #[.int .i64 x, .int .i64 y]) = .returned (pv s) := by rw [h1, h2]
theorem refhull_any (a b c d : Int) (w : World) :
    Calls Try.prog 13 #[pv (a, b), pv (c, d)] w fun e w' => e = .returned (pv (hul (a, b) (c, d))) ∧ Below w.heap.size w w' := by
  go_enter Try.func13, Try.ntmps13
  go_wp2
  all_goals (refine bodyPost_ret (v := pv (hul (a, b) (c, d))) (by simp [results, Try.results13, go_sem, hul]; omega) rfl ⟨rfl, bal (bal (bal0 _ _) _) _⟩)

theorem PAt.owned {W : World} {g off : Nat} {L : List Sp} (hlt : g < W.heap.size) (hc : ∀ i, i < L.length → W.cell? ⟨g, off + i * 2, none⟩ = some (.int .i64 (L.getD i (0, 0)).1) ∧ W.cell? ⟨g, off + i * 2 + 1, none⟩ = some (.int .i64 (L.getD i (0, 0)).2)) : PAt W (some ⟨g, off, none⟩) L W.heap.size :=
  fun _ => ⟨g, off, rfl, hlt, hc⟩

set_option maxRecDepth 100000 in
theorem refall_any (ao : Option Addr) (len cap : Nat) (L : List Sp) (hl : L.length = len) (hm : len ≤ maxLen) (w : World) (hS : PAt w ao L w.heap.size) :
    Calls Try.prog 7 #[.slice ao len cap] w fun e w' => e = .returned (.tuple #[pv (allS L), .int .i64 (allE L)]) ∧ Below w.heap.size w w' := by
  have hm' : len ≤ 9223372036854775807 := by unfold maxLen at hm; omega
  rcases Nat.eq_zero_or_pos len with h0 | hp
  · have : L = [] := List.eq_nil_of_length_eq_zero (hl.trans h0)
    subst this
    subst hl
    go_enter Try.func7, Try.ntmps7
    go_wp2
    exact bodyPost_ret (v := .tuple #[pv (0, 0), .int .i64 7]) (by simp [results, Try.results7, go_sem]) rfl ⟨rfl, bal0 _ _⟩
  · obtain ⟨g, off, rfl, hg, hc⟩ := hS (by omega)
    have HC := Lib.hid (show ∀ i, i < len → ∀ W : World, Below w.heap.size w W → W.cell? ⟨g, off + i * 2, none⟩ = some (.int .i64 (L.getD i (0, 0)).1) ∧ W.cell? ⟨g, off + i * 2 + 1, none⟩ = some (.int .i64 (L.getD i (0, 0)).2) from
      fun i hi W hb => ⟨(hb.cell (p := ⟨g, _, none⟩) hg).trans (hc i (by omega)).1, (hb.cell (p := ⟨g, _, none⟩) hg).trans (hc i (by omega)).2⟩)
    have hz : w.cell? ⟨g, off, none⟩ = some (.int .i64 (L.getD 0 (0, 0)).1) ∧ w.cell? ⟨g, off + 1, none⟩ = some (.int .i64 (L.getD 0 (0, 0)).2) := by
      have := hc 0 (by omega)
      rwa [Nat.zero_mul, Nat.add_zero] at this
    obtain ⟨z1, z2⟩ := hz
    have hlen0 : ((len : Int) == 0) = false := by rw [beq_eq_false_iff_ne]; omega
    have hlp : (0 : Int) < len := by omega
    have H1 := Lib.hid (allS_one L (by omega))
    have HT := Lib.hid (fun j (h1 : 1 ≤ j) (h : j < len) => allS_take L j h1 (by omega))
    have HE := Lib.hid (show allS (L.take len) = allS L by rw [← hl, List.take_length])
    have HE0 := Lib.hid (allE_pos (L := L) (by omega))
    clear hc hS hl
    go_enter Try.func7, Try.ntmps7
    go_wp2
    go_loopw [5] (fun i wr => ∃ j : Nat, 1 ≤ j ∧ j ≤ len ∧ i = .int .i64 j ∧ Blk wr w.heap.size 24 #[.int .i64 0, .int .i64 0] ∧ Blk wr (w.heap.size + 1) 24 #[.int .i64 (allS (L.take j)).1, .int .i64 (allS (L.take j)).2] ∧ Below w.heap.size w wr)
      (fun i _ => len - (intOf i).toNat)
    case atStart =>
      refine ⟨1, Nat.le_refl _, hp, rfl, (Blk.new w 24 _).alloc _, ?_, bal (bal0 _ _) _⟩
      rw [H1.out]
      have := Blk.new (w.alloc (.cells #[.int .i64 0, .int .i64 0] 24)) 24 #[.int .i64 (L.getD 0 (0, 0)).1, .int .i64 (L.getD 0 (0, 0)).2]
      rwa [World.size_alloc] at this
    case round =>
      obtain ⟨j, hj1, hj, rfl, hR, hV, hB⟩ := hrel
      by_cases hlt : j < len
      · obtain ⟨e1, e2⟩ := HC.out j hlt wr hB
        have hnx := Lib.hid (HT.out j hj1 hlt)
        generalize L.getD j (0, 0) = x at *
        generalize allS (L.take j) = y at *
        have v1 := hV.cell 0
        have v2 := hV.cell 1
        simp at v1 v2
        have i0 : (0 : Int) ≤ (j : Int) := by omega
        have i1 : (j : Int) < (len : Int) := by omega
        go_wp2_with fail
        go_still_tail 5, (by kernel_rfl)
        have hV2 := hV.drew
        have hR2 := hR.drew
        have hB2 := hB.drew
        change wpList _ _ _ _ _ wr.drew
        generalize wr.drew = w2 at hV2 hR2 hB2 ⊢
        clear hV hR hB e1 e2 v1 v2
        go_wp2_with fail
        refine (refhull_any _ _ _ _ w2).mono ?_
        rintro e w3 ⟨rfl, hb3⟩
        have hV3 := hV2.below hb3 hV2.lt
        have hR3 := hR2.below hb3 hR2.lt
        have hB3 := btr hB2 hb3
        clear hV2 hR2 hB2 hb3
        have v1 := hV3.cell 0
        have v2 := hV3.cell 1
        simp at v1 v2
        have g1 := hV3.frozen 0
        have g2 := hV3.frozen 1
        generalize hul y x = z at hnx ⊢
        go_wp2
        go_roundw
        case rel =>
          refine ⟨j + 1, by omega, by omega, by go_num, (hR3.other _ _ (by simp)).other _ _ (by simp), ?_, (hB3.setCell (by simp) _).setCell (by simp) _⟩
          rw [hnx.out]
          exact (hV3.set 0 _).set 1 _
        case measure => simp [intOf]; omega
      · obtain rfl : j = len := by omega
        rw [HE.out] at hV
        obtain ⟨y, hy⟩ : ∃ y, allS L = y := ⟨_, rfl⟩
        rw [hy] at hV
        have HY := Lib.hid hy
        clear hy HE
        have v1 := hV.cell 0
        have v2 := hV.cell 1
        simp at v1 v2
        have r1 := hR.cell 0
        have r2 := hR.cell 1
        simp at r1 r2
        have g1 := hR.frozen 0
        have g2 := hR.frozen 1
        go_wp2
        have hc1 : ((wr.setCell ⟨w.heap.size, 0, none⟩ (.int .i64 y.1)).setCell ⟨w.heap.size, 1, none⟩ (.int .i64 y.2)).cell? ⟨w.heap.size, 0, none⟩ = some (.int .i64 y.1) := ((hR.set 0 _).set 1 _).cell 0
        have hc2 : ((wr.setCell ⟨w.heap.size, 0, none⟩ (.int .i64 y.1)).setCell ⟨w.heap.size, 1, none⟩ (.int .i64 y.2)).cell? ⟨w.heap.size, 1, none⟩ = some (.int .i64 y.2) := ((hR.set 0 _).set 1 _).cell 1
        exact bodyPost_ret (v := .tuple #[pv y, .int .i64 0]) (by simp [results, Try.results7, go_sem, hc1, hc2]) rfl ⟨by rw [HY.out, HE0.out], (hB.setCell (by simp) _).setCell (by simp) _⟩
end Go.Proofs.Ytbmkacleeboeeaa
