/-
  The walk of the statement SpanDoes: of any row of spans, any two spans and any number it returns true; nothing that was there before the call has changed. Conditions: the row lies in memory as a slice.
-/
import Derived.Test.YtbmkacleeboeeaaSpanAwake
namespace Go.Proofs.Ytbmkacleeboeeaa
open Go.RowKit

set_option maxRecDepth 100000 in
set_option maxHeartbeats 4000000 in
theorem spanDoes_walk (ao : Option Addr) (len cap : Nat) (L : List Sp) (s t : Sp) (n : Int) (hl : L.length = len) (hcap : len ≤ cap) (hcm : cap ≤ maxLen) (w : World) (hS : PAt w ao L w.heap.size) :
    Calls Try.prog 3 #[.slice ao len cap, pv s, pv t, .int .i64 n] w fun e w' => e = .returned (.bool true) ∧ Below w.heap.size w w' := by
  by_cases h200 : 200 < len
  · have i0 : (200 : Int) < (len : Int) := by omega
    clear hS hl
    go_enter Try.func3, Try.ntmps3
    go_wp2
    go_ret
    exact ⟨rfl, bal (bal0 _ _) _⟩
  have i0 : ¬ (200 : Int) < (len : Int) := by omega
  have hm : len ≤ 1099511627776 := by omega
  have HA := Lib.hid (fun W h => all_any ao len cap L hl hm hcap hcm W h)
  have HB := Lib.hid (fun W h => refall_any ao len cap L hl (by omega) W h)
  have HC := Lib.hid (fun W h => through_any ao len cap L s.1 s.2 n hl hm hcap hcm W h)
  have HD := Lib.hid (fun W h => refthrough_any ao len cap L s.1 s.2 n hl hm hcap hcm W h)
  have HR := Lib.hid (fun W h => rise_any ao len cap L hl hm W h)
  have HQ := Lib.hid (fun W h => refrise_any ao len cap L hl hm W h)
  have HH := Lib.hid (hull_any s t)
  have HG := Lib.hid (refhull_any s.1 s.2 t.1 t.2)
  have HK := Lib.hid (check_any s.1 s.2 n)
  have HW := Lib.hid (refright_any s.1 s.2 n)
  rw [show hul (s.1, s.2) (t.1, t.2) = hul s t from rfl] at HG
  generalize allS L = A at *
  generalize allE L = ae at *
  generalize thS L (s.1, s.2) n = C at *
  generalize thE L (s.1, s.2) n = ce at *
  generalize rise L = r at *
  generalize hul s t = h at *
  have b1 := (Blk.new w 24 #[.int .i64 s.1, .int .i64 s.2]).alloc (.cells #[.int .i64 t.1, .int .i64 t.2] 24)
  have b2 := Blk.new (w.alloc (.cells #[.int .i64 s.1, .int .i64 s.2] 24)) 24 #[.int .i64 t.1, .int .i64 t.2]
  have hB := bal (bal0 w (.cells #[.int .i64 s.1, .int .i64 s.2] 24)) (.cells #[.int .i64 t.1, .int .i64 t.2] 24)
  have hS0 := (hS.below hB (Nat.le_refl _)).mono hB.size
  simp only [World.size_alloc] at b2
  clear hS hl
  go_enter Try.func3, Try.ntmps3
  go_wp2_with fail
  generalize (w.alloc (.cells #[.int .i64 s.1, .int .i64 s.2] 24)).alloc (.cells #[.int .i64 t.1, .int .i64 t.2] 24) = w0 at b1 b2 hB hS0 ⊢
  refine (HA.out w0 hS0).mono ?_
  rintro e w1 ⟨rfl, hb⟩
  have b1n := (b1.below hb b1.lt).alloc (.cells #[.int .i64 A.1, .int .i64 A.2] 24)
  have b2n := (b2.below hb b2.lt).alloc (.cells #[.int .i64 A.1, .int .i64 A.2] 24)
  have c1 := Blk.new w1 24 #[.int .i64 A.1, .int .i64 A.2]
  have hBn := bal (btr hB hb) (.cells #[.int .i64 A.1, .int .i64 A.2] 24)
  have hSn := (hS0.below (bal hb (.cells #[.int .i64 A.1, .int .i64 A.2] 24)) (Nat.le_refl _)).mono (bal hb (.cells #[.int .i64 A.1, .int .i64 A.2] 24)).size
  clear b1 b2 hB hS0 hb
  have y1 : (w1.alloc (.cells #[.int .i64 A.1, .int .i64 A.2] 24)).cell? ⟨w.heap.size, 0, none⟩ = some (.int .i64 s.1) := b1n.cell 0
  have y2 : (w1.alloc (.cells #[.int .i64 A.1, .int .i64 A.2] 24)).cell? ⟨w.heap.size, 1, none⟩ = some (.int .i64 s.2) := b1n.cell 1
  go_wp2_with fail
  clear y1 y2
  generalize w1.alloc (.cells #[.int .i64 A.1, .int .i64 A.2] 24) = v1 at b1n b2n c1 hBn hSn ⊢
  have b1 := b1n
  have b2 := b2n
  have hB := hBn
  have hS0 := hSn
  clear b1n b2n hBn hSn
  refine (HB.out v1 hS0).mono ?_
  rintro e w2 ⟨rfl, hb⟩
  have b1n := (b1.below hb b1.lt).alloc (.cells #[.int .i64 A.1, .int .i64 A.2] 24)
  have b2n := (b2.below hb b2.lt).alloc (.cells #[.int .i64 A.1, .int .i64 A.2] 24)
  have c1n := (c1.below hb c1.lt).alloc (.cells #[.int .i64 A.1, .int .i64 A.2] 24)
  have c2 := Blk.new w2 24 #[.int .i64 A.1, .int .i64 A.2]
  have hBn := bal (btr hB hb) (.cells #[.int .i64 A.1, .int .i64 A.2] 24)
  have hSn := (hS0.below (bal hb (.cells #[.int .i64 A.1, .int .i64 A.2] 24)) (Nat.le_refl _)).mono (bal hb (.cells #[.int .i64 A.1, .int .i64 A.2] 24)).size
  clear b1 b2 c1 hB hS0 hb
  have y1 : (w2.alloc (.cells #[.int .i64 A.1, .int .i64 A.2] 24)).cell? ⟨w.heap.size, 0, none⟩ = some (.int .i64 s.1) := b1n.cell 0
  have y2 : (w2.alloc (.cells #[.int .i64 A.1, .int .i64 A.2] 24)).cell? ⟨w.heap.size, 1, none⟩ = some (.int .i64 s.2) := b1n.cell 1
  go_wp2_with fail
  clear y1 y2
  generalize w2.alloc (.cells #[.int .i64 A.1, .int .i64 A.2] 24) = v2 at b1n b2n c1n c2 hBn hSn ⊢
  have b1 := b1n
  have b2 := b2n
  have c1 := c1n
  have hB := hBn
  have hS0 := hSn
  clear b1n b2n c1n hBn hSn
  refine (HC.out v2 hS0).mono ?_
  rintro e w3 ⟨rfl, hb⟩
  have b1n := (b1.below hb b1.lt).alloc (.cells #[.int .i64 C.1, .int .i64 C.2] 24)
  have b2n := (b2.below hb b2.lt).alloc (.cells #[.int .i64 C.1, .int .i64 C.2] 24)
  have c1n := (c1.below hb c1.lt).alloc (.cells #[.int .i64 C.1, .int .i64 C.2] 24)
  have c2n := (c2.below hb c2.lt).alloc (.cells #[.int .i64 C.1, .int .i64 C.2] 24)
  have c3 := Blk.new w3 24 #[.int .i64 C.1, .int .i64 C.2]
  have hBn := bal (btr hB hb) (.cells #[.int .i64 C.1, .int .i64 C.2] 24)
  have hSn := (hS0.below (bal hb (.cells #[.int .i64 C.1, .int .i64 C.2] 24)) (Nat.le_refl _)).mono (bal hb (.cells #[.int .i64 C.1, .int .i64 C.2] 24)).size
  clear b1 b2 c1 c2 hB hS0 hb
  have y1 : (w3.alloc (.cells #[.int .i64 C.1, .int .i64 C.2] 24)).cell? ⟨w.heap.size, 0, none⟩ = some (.int .i64 s.1) := b1n.cell 0
  have y2 : (w3.alloc (.cells #[.int .i64 C.1, .int .i64 C.2] 24)).cell? ⟨w.heap.size, 1, none⟩ = some (.int .i64 s.2) := b1n.cell 1
  go_wp2_with fail
  clear y1 y2
  generalize w3.alloc (.cells #[.int .i64 C.1, .int .i64 C.2] 24) = v3 at b1n b2n c1n c2n c3 hBn hSn ⊢
  have b1 := b1n
  have b2 := b2n
  have c1 := c1n
  have c2 := c2n
  have hB := hBn
  have hS0 := hSn
  clear b1n b2n c1n c2n hBn hSn
  refine (HD.out v3 hS0).mono ?_
  rintro e w4 ⟨rfl, hb⟩
  have b1n := (b1.below hb b1.lt).alloc (.cells #[.int .i64 C.1, .int .i64 C.2] 24)
  have b2n := (b2.below hb b2.lt).alloc (.cells #[.int .i64 C.1, .int .i64 C.2] 24)
  have c1n := (c1.below hb c1.lt).alloc (.cells #[.int .i64 C.1, .int .i64 C.2] 24)
  have c2n := (c2.below hb c2.lt).alloc (.cells #[.int .i64 C.1, .int .i64 C.2] 24)
  have c3n := (c3.below hb c3.lt).alloc (.cells #[.int .i64 C.1, .int .i64 C.2] 24)
  have c4 := Blk.new w4 24 #[.int .i64 C.1, .int .i64 C.2]
  have hBn := bal (btr hB hb) (.cells #[.int .i64 C.1, .int .i64 C.2] 24)
  have hSn := (hS0.below (bal hb (.cells #[.int .i64 C.1, .int .i64 C.2] 24)) (Nat.le_refl _)).mono (bal hb (.cells #[.int .i64 C.1, .int .i64 C.2] 24)).size
  clear b1 b2 c1 c2 c3 hB hS0 hb
  have y1 : (w4.alloc (.cells #[.int .i64 C.1, .int .i64 C.2] 24)).cell? ⟨w.heap.size, 0, none⟩ = some (.int .i64 s.1) := b1n.cell 0
  have y2 : (w4.alloc (.cells #[.int .i64 C.1, .int .i64 C.2] 24)).cell? ⟨w.heap.size, 1, none⟩ = some (.int .i64 s.2) := b1n.cell 1
  go_wp2_with fail
  clear y1 y2
  generalize w4.alloc (.cells #[.int .i64 C.1, .int .i64 C.2] 24) = v4 at b1n b2n c1n c2n c3n c4 hBn hSn ⊢
  have b1 := b1n
  have b2 := b2n
  have c1 := c1n
  have c2 := c2n
  have c3 := c3n
  have hB := hBn
  have hS0 := hSn
  clear b1n b2n c1n c2n c3n hBn hSn
  have q11 : ∀ p : Past v4, p.w.cell? ⟨w.heap.size, 0, none⟩ = some (.int .i64 s.1) := fun p => (b1.below p.h b1.lt).cell 0
  have q12 : ∀ p : Past v4, p.w.cell? ⟨w.heap.size, 1, none⟩ = some (.int .i64 s.2) := fun p => (b1.below p.h b1.lt).cell 1
  have q21 : ∀ p : Past v4, p.w.cell? ⟨w.heap.size + 1, 0, none⟩ = some (.int .i64 t.1) := fun p => (b2.below p.h b2.lt).cell 0
  have q22 : ∀ p : Past v4, p.w.cell? ⟨w.heap.size + 1, 1, none⟩ = some (.int .i64 t.2) := fun p => (b2.below p.h b2.lt).cell 1
  have HRp := Lib.hid (fun p : Past v4 => HR.out p.w ((hS0.below p.h (Nat.le_refl _)).mono p.h.size))
  have HQp := Lib.hid (fun p : Past v4 => HQ.out p.w ((hS0.below p.h (Nat.le_refl _)).mono p.h.size))
  clear HR HQ HA HB HC HD hS0
  cases hrt : rt (s.1, s.2) n with
  | true =>
    rw [chk_t hrt] at HK
    rw [hrt] at HW
    clear hrt
    refine wp_region_past (w0 := v4) (by kernel_rfl) (by kernel_rfl) (Below.refl _ _) ?_
    repeat (go_big_quiet_step ((first | with_reducible exact Calls.past (HK.out _) | with_reducible exact Calls.past (HW.out _) | with_reducible exact Calls.past (HH.out _) | with_reducible exact Calls.past (HG.out _) | with_reducible exact Calls.past (HRp.out _) | with_reducible exact Calls.past (HQp.out _))))
    refine wpQuiet_nil ?_
    intro p
    have hBp := btr hB p.h
    have d1 := c1.below p.h c1.lt
    have d2 := c2.below p.h c2.lt
    have d3 := c3.below p.h c3.lt
    have d4 := c4.below p.h c4.lt
    generalize p.w = v5 at hBp d1 d2 d3 d4 ⊢
    clear q11 q12 q21 q22 b1 b2 c1 c2 c3 c4 hB HRp HQp
    go_wp2_with fail
    refine (awake_span v5).mono ?_
    rintro e v6 ⟨rfl, hb⟩
    have HB6 := Lib.hid (btr hBp hb)
    have e1 := d1.below hb d1.lt
    have e2 := d2.below hb d2.lt
    have e3 := d3.below hb d3.lt
    have e4 := d4.below hb d4.lt
    clear d1 d2 d3 d4 hb hBp p
    have m11 : v6.cell? ⟨w1.heap.size, 0, none⟩ = some (.int .i64 A.1) := e1.cell 0
    have m12 : v6.cell? ⟨w1.heap.size, 1, none⟩ = some (.int .i64 A.2) := e1.cell 1
    have m21 : v6.cell? ⟨w2.heap.size, 0, none⟩ = some (.int .i64 A.1) := e2.cell 0
    have m22 : v6.cell? ⟨w2.heap.size, 1, none⟩ = some (.int .i64 A.2) := e2.cell 1
    have m31 : v6.cell? ⟨w3.heap.size, 0, none⟩ = some (.int .i64 C.1) := e3.cell 0
    have m32 : v6.cell? ⟨w3.heap.size, 1, none⟩ = some (.int .i64 C.2) := e3.cell 1
    have m41 : v6.cell? ⟨w4.heap.size, 0, none⟩ = some (.int .i64 C.1) := e4.cell 0
    have m42 : v6.cell? ⟨w4.heap.size, 1, none⟩ = some (.int .i64 C.2) := e4.cell 1
    clear e1 e2 e3 e4
    go_wp2
    go_ret
    exact ⟨rfl, HB6.out⟩
  | false =>
    rw [chk_f hrt] at HK
    rw [hrt] at HW
    clear hrt
    refine wp_region_past (w0 := v4) (by kernel_rfl) (by kernel_rfl) (Below.refl _ _) ?_
    repeat (go_big_quiet_step ((first | with_reducible exact Calls.past (HK.out _) | with_reducible exact Calls.past (HW.out _) | with_reducible exact Calls.past (HH.out _) | with_reducible exact Calls.past (HG.out _) | with_reducible exact Calls.past (HRp.out _) | with_reducible exact Calls.past (HQp.out _))))
    refine wpQuiet_nil ?_
    intro p
    have hBp := btr hB p.h
    have d1 := c1.below p.h c1.lt
    have d2 := c2.below p.h c2.lt
    have d3 := c3.below p.h c3.lt
    have d4 := c4.below p.h c4.lt
    generalize p.w = v5 at hBp d1 d2 d3 d4 ⊢
    clear q11 q12 q21 q22 b1 b2 c1 c2 c3 c4 hB HRp HQp
    go_wp2_with fail
    refine (awake_span v5).mono ?_
    rintro e v6 ⟨rfl, hb⟩
    have HB6 := Lib.hid (btr hBp hb)
    have e1 := d1.below hb d1.lt
    have e2 := d2.below hb d2.lt
    have e3 := d3.below hb d3.lt
    have e4 := d4.below hb d4.lt
    clear d1 d2 d3 d4 hb hBp p
    have m11 : v6.cell? ⟨w1.heap.size, 0, none⟩ = some (.int .i64 A.1) := e1.cell 0
    have m12 : v6.cell? ⟨w1.heap.size, 1, none⟩ = some (.int .i64 A.2) := e1.cell 1
    have m21 : v6.cell? ⟨w2.heap.size, 0, none⟩ = some (.int .i64 A.1) := e2.cell 0
    have m22 : v6.cell? ⟨w2.heap.size, 1, none⟩ = some (.int .i64 A.2) := e2.cell 1
    have m31 : v6.cell? ⟨w3.heap.size, 0, none⟩ = some (.int .i64 C.1) := e3.cell 0
    have m32 : v6.cell? ⟨w3.heap.size, 1, none⟩ = some (.int .i64 C.2) := e3.cell 1
    have m41 : v6.cell? ⟨w4.heap.size, 0, none⟩ = some (.int .i64 C.1) := e4.cell 0
    have m42 : v6.cell? ⟨w4.heap.size, 1, none⟩ = some (.int .i64 C.2) := e4.cell 1
    clear e1 e2 e3 e4
    go_wp2
    go_ret
    exact ⟨rfl, HB6.out⟩
end Go.Proofs.Ytbmkacleeboeeaa
