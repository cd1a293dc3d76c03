/-
  Package span (the landed code): the hull of two, of all. Conditions: a row lies in memory as a slice.
-/
import Derived.Test.YtbmkacleeboeeaaSpanPkg
namespace Go.Proofs.Ytbmkacleeboeeaa
open Go.RowKit

theorem one_at (W : World) (t : Sp) (n : Nat) (hn : W.heap.size = n) : PAt (W.alloc (.cells #[.int .i64 t.1, .int .i64 t.2] 24)) (some ⟨n, 0, none⟩) [t] (W.alloc (.cells #[.int .i64 t.1, .int .i64 t.2] 24)).heap.size := by
  intro _
  subst hn
  have hb := Blk.new W 24 #[.int .i64 t.1, .int .i64 t.2]
  refine ⟨W.heap.size, 0, rfl, hb.lt, fun i hi => ?_⟩
  obtain rfl : i = 0 := by simpa using hi
  exact ⟨hb.cell 0, hb.cell 1⟩

set_option maxRecDepth 100000 in
theorem hull_any (s t : Sp) (w : World) :
    Calls Try.prog 12 #[pv s, pv t] w fun e w' => e = .returned (pv (hul s t)) ∧ Below w.heap.size w w' := by
  go_enter Try.func12, Try.ntmps12
  have hat := one_at (((w.alloc (.cells #[.int .i64 s.1, .int .i64 s.2] 24)).alloc (.cells #[.int .i64 t.1, .int .i64 t.2] 24)).alloc (.cells #[.int .i64 0, .int .i64 0] 24)) t (w.heap.size + 1 + 1 + 1) (by simp only [World.size_alloc])
  have hR := Blk.new ((w.alloc (.cells #[.int .i64 s.1, .int .i64 s.2] 24)).alloc (.cells #[.int .i64 t.1, .int .i64 t.2] 24)) 24 #[.int .i64 0, .int .i64 0]
  have hR' := hR.alloc (.cells #[.int .i64 t.1, .int .i64 t.2] 24)
  have hB := bal (bal (bal (bal0 w (.cells #[.int .i64 s.1, .int .i64 s.2] 24)) (.cells #[.int .i64 t.1, .int .i64 t.2] 24)) (.cells #[.int .i64 0, .int .i64 0] 24)) (.cells #[.int .i64 t.1, .int .i64 t.2] 24)
  have h := Lib.hid (hulls_any _ 1 1 s [t] rfl (by decide) _ hat)
  have hlt := hR'.lt
  rw [show ((w.alloc (.cells #[.int .i64 s.1, .int .i64 s.2] 24)).alloc (.cells #[.int .i64 t.1, .int .i64 t.2] 24)).heap.size = w.heap.size + 1 + 1 by simp only [World.size_alloc]] at hR' hlt
  go_wp2_with fail
  refine h.out.mono ?_
  rintro e w1 ⟨rfl, hb⟩
  have hR1 := hR'.below hb hlt
  have hB1 := btr hB hb
  clear hat hR hR' hB hb hlt
  rw [show hulls s [t] = hul s t from rfl]
  have g1 := hR1.frozen 0
  have g2 := hR1.frozen 1
  have r1 := hR1.cell 0
  have r2 := hR1.cell 1
  simp at r1 r2
  clear h
  have Q := hR1.two (.int .i64 (hul s t).1) (.int .i64 (hul s t).2)
  go_wp2
  exact bodyPost_ret (v := pv (hul s t)) (by simp [results, Try.results12, go_sem, Q.1, Q.2]) rfl ⟨rfl, (hB1.setCell (by simp; omega) _).setCell (by simp; omega) _⟩

set_option maxRecDepth 100000 in
set_option maxHeartbeats 1000000 in
theorem all_any (ao : Option Addr) (len cap : Nat) (L : List Sp) (hl : L.length = len) (hm : len ≤ 1099511627776) (hcap : len ≤ cap) (hcm : cap ≤ maxLen) (w : World) (hS : PAt w ao L w.heap.size) :
    Calls Try.prog 6 #[.slice ao len cap] w fun e w' => e = .returned (.tuple #[pv (allS L), .int .i64 (allE L)]) ∧ Below w.heap.size w w' := by
  cases L with
  | nil =>
    subst hl
    go_enter Try.func6, Try.ntmps6
    go_wp2
    exact bodyPost_ret (v := .tuple #[pv (0, 0), .int .i64 7]) (by simp [results, Try.results6, go_sem]) rfl ⟨rfl, bal0 _ _⟩
  | cons s r =>
    have hl' : r.length + 1 = len := hl
    obtain ⟨g, off, rfl, hg, hc⟩ := hS (by simp)
    have hz : w.cell? ⟨g, off, none⟩ = some (.int .i64 s.1) ∧ w.cell? ⟨g, off + 1, none⟩ = some (.int .i64 s.2) := by simpa using hc 0 (by simp)
    obtain ⟨z1, z2⟩ := hz
    have hlen0 : ((len : Int) == 0) = false := by rw [beq_eq_false_iff_ne]; omega
    have hlp : (0 : Int) < len := by omega
    have hl1 : (1 : Int) ≤ len := by omega
    have hN0 : 0 < len := by omega
    have hN1 : 1 ≤ len := by omega
    have hA := bal0 w (.cells #[.int .i64 0, .int .i64 0] 24)
    have hR := Blk.new w 24 #[.int .i64 0, .int .i64 0]
    have a1 : (w.alloc (.cells #[.int .i64 0, .int .i64 0] 24)).cell? ⟨g, off, none⟩ = some (.int .i64 s.1) := (hA.cell (p := ⟨g, _, none⟩) hg).trans z1
    have a2 : (w.alloc (.cells #[.int .i64 0, .int .i64 0] 24)).cell? ⟨g, off + 1, none⟩ = some (.int .i64 s.2) := (hA.cell (p := ⟨g, _, none⟩) hg).trans z2
    have HC := Lib.hid (show ∀ i, i < r.length → ∀ W : World, Below w.heap.size w W → W.cell? ⟨g, off + 2 + i * 2, none⟩ = some (.int .i64 (r.getD i (0, 0)).1) ∧ W.cell? ⟨g, off + 2 + i * 2 + 1, none⟩ = some (.int .i64 (r.getD i (0, 0)).2) from fun i hi W hb => by
      have h := hc (i + 1) (by simpa using hi)
      rw [show off + (i + 1) * 2 = off + 2 + i * 2 by omega] at h
      exact ⟨(hb.cell (p := ⟨g, _, none⟩) hg).trans h.1, (hb.cell (p := ⟨g, _, none⟩) hg).trans h.2⟩)
    clear hc hS hl
    go_enter Try.func6, Try.ntmps6
    go_wp2_with fail
    generalize w.alloc (.cells #[.int .i64 0, .int .i64 0] 24) = w1 at hA hR a1 a2 ⊢
    by_cases h1 : cap = 1
    · subst h1
      obtain rfl : len = 1 := by omega
      obtain rfl : r = [] := List.eq_nil_of_length_eq_zero (by omega)
      clear HC hlen0 hlp hl1 hN0 hN1 hl' hcap hcm hm z1 z2
      go_still_tail 5, (by kernel_rfl)
      have hA2 := hA.drew
      have hR2 := hR.drew
      change wpList _ _ _ _ _ w1.drew
      generalize w1.drew = w2 at hA2 hR2 ⊢
      clear hA hR a1 a2
      go_wp2_with fail
      refine (hulls_any _ 0 0 s [] rfl (by decide) w2 (fun hp => absurd hp (Nat.lt_irrefl 0))).mono ?_
      rintro e w3 ⟨rfl, hb⟩
      have hR3 := hR2.below hb hR2.lt
      have hB3 := btr hA2 hb
      clear hA2 hR2 hb
      have g1 := hR3.frozen 0
      have g2 := hR3.frozen 1
      have r1 := hR3.cell 0
      have r2 := hR3.cell 1
      simp at r1 r2
      have Q := hR3.two (.int .i64 (hulls s []).1) (.int .i64 (hulls s []).2)
      go_wp2
      exact bodyPost_ret (v := .tuple #[pv (hulls s []), .int .i64 0]) (by simp [results, Try.results6, go_sem, Q.1, Q.2]) rfl ⟨rfl, (hB3.setCell (by simp) _).setCell (by simp) _⟩
    · go_still_tail 5, (by kernel_rfl)
      have hA2 := hA.drew
      have hR2 := hR.drew
      change wpList _ _ _ _ _ w1.drew
      generalize w1.drew = w2 at hA2 hR2 ⊢
      clear hA hR a1 a2
      go_wp2_with fail
      refine (hulls_any _ (len - 1) (cap - 1) s r (by omega) (by omega) w2 (fun _ => ⟨g, off + 2, rfl, Nat.lt_of_lt_of_le hg hA2.size, fun i hi => HC.out i hi w2 hA2⟩)).mono ?_
      rintro e w3 ⟨rfl, hb⟩
      have hR3 := hR2.below hb hR2.lt
      have hB3 := btr hA2 hb
      clear hA2 hR2 hb
      have g1 := hR3.frozen 0
      have g2 := hR3.frozen 1
      have r1 := hR3.cell 0
      have r2 := hR3.cell 1
      simp at r1 r2
      have Q := hR3.two (.int .i64 (hulls s r).1) (.int .i64 (hulls s r).2)
      go_wp2
      exact bodyPost_ret (v := .tuple #[pv (hulls s r), .int .i64 0]) (by simp [results, Try.results6, go_sem, Q.1, Q.2]) rfl ⟨rfl, (hB3.setCell (by simp) _).setCell (by simp) _⟩
end Go.Proofs.Ytbmkacleeboeeaa
