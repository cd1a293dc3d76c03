/-
  Package span (the landed code): whether a span may be, the hull of two and of all. Conditions: a row lies in memory as a slice.
-/
import Derived.Test.YtbmkacleeboeeaaSpanRefT
namespace Go.Proofs.Ytbmkacleeboeeaa
open Go.RowKit

def chk (s : Sp) (n : Int) : Int := if rt s n = true then 0 else 1
theorem chk_t {s : Sp} {n : Int} (h : rt s n = true) : chk s n = 0 := if_pos h
theorem chk_f {s : Sp} {n : Int} (h : rt s n = false) : chk s n = 1 := if_neg (by rw [h]; exact Bool.false_ne_true)
theorem Blk.to {W : World} {B : Nat} {t : TypeId} {a b a' b' : Int} (h : Blk W B t #[.int .i64 a, .int .i64 b]) (h1 : a = a') (h2 : b = b') : Blk W B t #[.int .i64 a', .int .i64 b'] := by rw [← h1, ← h2]; exact h

theorem check_any (a b n : Int) (w : World) :
    Calls Try.prog 10 #[pv (a, b), .int .i64 n] w fun e w' => e = .returned (.int .i64 (chk (a, b) n)) ∧ Below w.heap.size w w' := by
  by_cases h1 : 0 ≤ a
  · by_cases h2 : a ≤ b
    · by_cases h3 : b ≤ n
      · rw [chk_t (rt_t h1 h2 h3)]
        go_enter Try.func10, Try.ntmps10
        go_wp2
        go_ret
        exact ⟨rfl, bal0 _ _⟩
      · rw [chk_f (rt_f fun h => h3 h.2.2)]
        go_enter Try.func10, Try.ntmps10
        go_wp2
        go_ret
        exact ⟨rfl, bal0 _ _⟩
    · rw [chk_f (rt_f fun h => h2 h.2.1)]
      go_enter Try.func10, Try.ntmps10
      go_wp2
      go_ret
      exact ⟨rfl, bal0 _ _⟩
  · rw [chk_f (rt_f fun h => h1 h.1)]
    go_enter Try.func10, Try.ntmps10
    go_wp2
    go_ret
    exact ⟨rfl, bal0 _ _⟩

set_option maxRecDepth 100000 in
theorem hulls_any (ao : Option Addr) (len cap : Nat) (s : Sp) (L : List Sp) (hl : L.length = len) (hm : len ≤ 1099511627776) (w : World) (hS : PAt w ao L w.heap.size) :
    Calls Try.prog 17 #[pv s, .slice ao len cap] w fun e w' => e = .returned (pv (hulls s L)) ∧ Below w.heap.size w w' := by
  have HC := Lib.hid (show 0 < len → ∃ g off, ao = some ⟨g, off, none⟩ ∧ g < w.heap.size ∧ ∀ i, i < len → ∀ W : World, Below w.heap.size w W → W.cell? ⟨g, off + i * 2, none⟩ = some (.int .i64 (L.getD i (0, 0)).1) ∧ W.cell? ⟨g, off + i * 2 + 1, none⟩ = some (.int .i64 (L.getD i (0, 0)).2) from fun h => by
      obtain ⟨g, off, rfl, hg, hc⟩ := hS (by omega)
      exact ⟨g, off, rfl, hg, fun i hi W hb => ⟨(hb.cell (p := ⟨g, _, none⟩) hg).trans (hc i (by omega)).1, (hb.cell (p := ⟨g, _, none⟩) hg).trans (hc i (by omega)).2⟩⟩)
  have HT := Lib.hid (fun k (h : k < len) => hulls_take s L k (by omega))
  have HE := Lib.hid (show hulls s (L.take len) = hulls s L by rw [← hl, List.take_length])
  clear hS hl
  go_enter Try.func17, Try.ntmps17
  go_wp2
  go_loopw [9] (fun i wr => ∃ j : Nat, j ≤ len ∧ i = .int .i64 j ∧ Blk wr w.heap.size 24 #[.int .i64 (hulls s (L.take j)).1, .int .i64 (hulls s (L.take j)).2] ∧ Blk wr (w.heap.size + 1) 24 #[.int .i64 0, .int .i64 0] ∧ Below w.heap.size w wr)
    (fun i _ => len - (intOf i).toNat)
  case atStart =>
    refine ⟨0, Nat.zero_le _, rfl, (Blk.new w 24 _).alloc _, ?_, bal (bal0 _ _) _⟩
    have := Blk.new (w.alloc (.cells #[.int .i64 s.1, .int .i64 s.2] 24)) 24 #[.int .i64 0, .int .i64 0]
    rwa [World.size_alloc] at this
  case round =>
    obtain ⟨j, hj, rfl, hV, hR, hB⟩ := hrel
    by_cases hlt : j < len
    · obtain ⟨g, off, rfl, hg, hc⟩ := HC.out (by omega)
      obtain ⟨e1, e2⟩ := hc j hlt wr hB
      have i0 : (0 : Int) ≤ (j : Int) := by omega
      have i1 : (j : Int) < (len : Int) := by omega
      have hnx := Lib.hid (HT.out j hlt)
      generalize L.getD j (0, 0) = x at *
      generalize hulls s (L.take j) = y at *
      have hVa := hV.alloc (.cells #[.int .i64 x.1, .int .i64 x.2] 24)
      have hRa := hR.alloc (.cells #[.int .i64 x.1, .int .i64 x.2] 24)
      have hBa := bal hB (.cells #[.int .i64 x.1, .int .i64 x.2] 24)
      have v1 : (wr.alloc (.cells #[.int .i64 x.1, .int .i64 x.2] 24)).cell? ⟨w.heap.size, 0, none⟩ = some (.int .i64 y.1) := hVa.cell 0
      have v2 : (wr.alloc (.cells #[.int .i64 x.1, .int .i64 x.2] 24)).cell? ⟨w.heap.size, 1, none⟩ = some (.int .i64 y.2) := hVa.cell 1
      have g1 := hVa.frozen 0
      have g2 := hVa.frozen 1
      clear hc
      go_wp2
      all_goals go_roundw
      all_goals first
        | (case measure => simp [intOf]; omega)
        | (case rel => exact ⟨j + 1, by omega, by go_num, by rw [hnx.out]; exact ((hVa.set 0 _).set 1 _).to (by simp only [hul]; omega) (by simp only [hul]; omega), (hRa.other _ _ (by simp)).other _ _ (by simp), (hBa.setCell (by simp) _).setCell (by simp) _⟩)
    · obtain rfl : j = len := by omega
      rw [HE.out] at hV
      have v1 := hV.cell 0
      have v2 := hV.cell 1
      simp at v1 v2
      have g1 := hR.frozen 0
      have g2 := hR.frozen 1
      have r1 := hR.cell 0
      have r2 := hR.cell 1
      simp at r1 r2
      have Q := hR.two (.int .i64 (hulls s L).1) (.int .i64 (hulls s L).2)
      go_wp2
      exact bodyPost_ret (v := pv (hulls s L)) (by simp [results, Try.results17, go_sem, Q.1, Q.2]) rfl ⟨rfl, (hB.setCell (by simp) _).setCell (by simp) _⟩
end Go.Proofs.Ytbmkacleeboeeaa
