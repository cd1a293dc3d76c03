/-
  The walk of the statement SpanThrough: of any row of spans, any three places and any number it returns true; nothing that was there before the call has changed. Conditions: the row lies in memory as a slice.
-/
import Derived.Test.YtbmkacleeboeeaaSpanOwn
namespace Go.Proofs.Ytbmkacleeboeeaa
open Go.RowKit

set_option maxRecDepth 100000 in
set_option maxHeartbeats 4000000 in
theorem spanThrough_main (ao : Option Addr) (len cap : Nat) (L : List Sp) (f m t : Int) (n : Nat) (hl : L.length = len) (hcap : len ≤ cap) (hcm : cap ≤ maxLen) (h200 : len ≤ 200) (hn : n ≤ 200) (w : World) (hS : PAt w ao L w.heap.size) :
    Calls Try.prog 5 #[.slice ao len cap, .int .i64 f, .int .i64 m, .int .i64 t, .int .i64 (n : Int)] w fun e w' => e = .returned (.bool true) ∧ Below w.heap.size w w' := by
  obtain ⟨i0, hi, hz0, hz1, hz2⟩ := info_parts info_span
  have g1 : ¬ (200 : Int) < (len : Int) := by omega
  have g2 : ¬ (n : Int) < 0 := by omega
  have g3 : ¬ (200 : Int) < (n : Int) := by omega
  have hm : len ≤ 1099511627776 := by omega
  have HO := Lib.hid (fun W ow oc h1 h2 h3 => through_any ow n oc (ownL n) f t n (ownL_length n) (by omega) h1 h2 W h3)
  have HK := Lib.hid (check_any f t n)
  have HA := Lib.hid (fun W h => through_any ao len cap L f m n hl hm hcap hcm W h)
  have HB := Lib.hid (fun W h => through_any ao len cap L m t n hl hm hcap hcm W h)
  have HC := Lib.hid (fun W h => through_any ao len cap L f t n hl hm hcap hcm W h)
  have H2 := Lib.hid (th_two (L := L) (f := f) (m := m) (t := t) (n := n))
  have HS := Lib.hid hS
  clear hS hl
  go_enter Try.func5, Try.ntmps5
  go_wp2
  go_loopw [11, 12] (fun o i wr => ∃ k : Nat, k ≤ n ∧ i = .int .i64 k ∧ wr.ownsRow w.heap.size 24 2 o k (spCells (ownL k)) ∧ Below w.heap.size w wr)
    (fun _ i _ => n - (intOf i).toNat)
  case atStart => exact ⟨0, Nat.zero_le _, rfl, World.ownsRow_nil _ _ _ _, Below.refl _ _⟩
  case round =>
    obtain ⟨k, hk, rfl, hown, hB⟩ := hrel
    by_cases hlt : k < n
    · have hlt' : (k : Int) < (n : Int) := by omega
      have hsz := hB.size
      have hw : IntKind.i64.wrap ((k : Int) + 1) = (k : Int) + 1 := IntWalk.i64_in _ (by omega)
      clear HO HK HA HB HC H2 HS
      go_wp2_with (first | (at_builtin; refine wpList_append_own _ rfl _ _ 22 rfl w.heap.size 24 i0 (.agg #[.int .i64 0, .int .i64 0]) 2 16 Try.underlying22 hi hz0 hz1 hz2 rfl (by decide) _ _ _ rfl (hown.alloc _) ⟨wr.heap.size, 0, none⟩ 1 1 [.int .i64 (k : Int), .int .i64 ((k : Int) + 1)] rfl rfl (cell_two_new _ _ _ _) (by simp [Value.oneCell']) (by unfold maxLen; omega) (by omega) (by simp; omega) ?_; intro v' w2 hown2 hg2 _) | fail)
      have hlow := (bal hB _).trans (grown_lowS (hown.alloc (.cells #[.int .i64 (k : Int), .int .i64 ((k : Int) + 1)] 24)) (by simp; omega) hg2)
      have e4 : spCells (ownL k) ++ [.int .i64 (k : Int), .int .i64 ((k : Int) + 1)] = spCells (ownL (k + 1)) := by rw [ownL_succ, spCells_append]; rfl
      rw [e4] at hown2
      clear hown hB hg2 e4
      go_roundw
      case rel => exact ⟨k + 1, by omega, by go_num, hown2, hlow⟩
      case measure => simp [intOf]; omega
    · obtain rfl : k = n := by omega
      have hkk : ¬ (k : Int) < (k : Int) := by omega
      have hown' : wr.ownsRow w.heap.size 24 2 u11 (ownL k).length (spCells (ownL k)) := by rw [ownL_length]; exact hown
      obtain ⟨oo, oc, e, ho1, ho2, hat⟩ := PAt.of_owns hown'
      rw [ownL_length] at e ho1
      subst e
      have b13 := Blk.new wr 24 #[.int .i64 f, .int .i64 t]
      have hBa := bal hB (.cells #[.int .i64 f, .int .i64 t] 24)
      have hata := (hat.below (bal0 wr (.cells #[.int .i64 f, .int .i64 t] 24)) (Nat.le_refl _)).mono (bal0 wr (.cells #[.int .i64 f, .int .i64 t] 24)).size
      have hSa := (HS.out.below hBa (Nat.le_refl _)).mono hBa.size
      clear hown hown' hat hB HS
      generalize thS L (f, m) k = A at *
      generalize thE L (f, m) k = ae at *
      generalize thS L (m, t) k = B at *
      generalize thE L (m, t) k = be at *
      generalize thS L (f, t) k = C at *
      generalize thE L (f, t) k = ce at *
      cases hr : rt (f, t) k with
      | true =>
        obtain ⟨o1, o2⟩ := (th_own k (f, t)).1 hr
        rw [o1, o2] at HO
        rw [chk_t hr] at HK
        clear o1 o2 hr
        go_wp2_with fail
        generalize wr.alloc (.cells #[.int .i64 f, .int .i64 t] 24) = wa at b13 hBa hata hSa ⊢
        refine (HO.out wa oo oc ho1 ho2 hata).mono ?_
        rintro e w1 ⟨rfl, hb⟩
        have b13a := (b13.below hb b13.lt).alloc (.cells #[.int .i64 f, .int .i64 t] 24)
        have b14 := Blk.new w1 24 #[.int .i64 f, .int .i64 t]
        have hB1 := bal (btr hBa hb) (.cells #[.int .i64 f, .int .i64 t] 24)
        have hS1 := (hSa.below (bal hb (.cells #[.int .i64 f, .int .i64 t] 24)) (Nat.le_refl _)).mono (bal hb (.cells #[.int .i64 f, .int .i64 t] 24)).size
        clear b13 hBa hSa hata hb HO ho1 ho2
        have y1 : (w1.alloc (.cells #[.int .i64 f, .int .i64 t] 24)).cell? ⟨wr.heap.size, 0, none⟩ = some (.int .i64 f) := b13a.cell 0
        have y2 : (w1.alloc (.cells #[.int .i64 f, .int .i64 t] 24)).cell? ⟨wr.heap.size, 1, none⟩ = some (.int .i64 t) := b13a.cell 1
        go_wp2_with fail
        clear y1 y2
        generalize w1.alloc (.cells #[.int .i64 f, .int .i64 t] 24) = v1 at b13a b14 hB1 hS1 ⊢
        refine (HK.out v1).mono ?_
        rintro e w2 ⟨rfl, hb⟩
        have b13b := b13a.below hb b13a.lt
        have b14b := b14.below hb b14.lt
        have hB2 := btr hB1 hb
        have hS2 := (hS1.below hb (Nat.le_refl _)).mono hb.size
        clear b13a b14 hB1 hS1 hb HK
        have y1 : w2.cell? ⟨wr.heap.size, 0, none⟩ = some (.int .i64 f) := b13b.cell 0
        have y2 : w2.cell? ⟨wr.heap.size, 1, none⟩ = some (.int .i64 t) := b13b.cell 1
        have y3 : w2.cell? ⟨w1.heap.size, 0, none⟩ = some (.int .i64 f) := b14b.cell 0
        have y4 : w2.cell? ⟨w1.heap.size, 1, none⟩ = some (.int .i64 t) := b14b.cell 1
        go_wp2_with fail
        clear y1 y2 y3 y4 b14b
        refine (HA.out w2 hS2).mono ?_
        rintro e w3 ⟨rfl, hb⟩
        have b13bn := (b13b.below hb b13b.lt).alloc (.cells #[.int .i64 A.1, .int .i64 A.2] 24)
        have c3 := Blk.new w3 24 #[.int .i64 A.1, .int .i64 A.2]
        have hBn := bal (btr hB2 hb) (.cells #[.int .i64 A.1, .int .i64 A.2] 24)
        have hSn := (hS2.below (bal hb (.cells #[.int .i64 A.1, .int .i64 A.2] 24)) (Nat.le_refl _)).mono (bal hb (.cells #[.int .i64 A.1, .int .i64 A.2] 24)).size
        clear b13b hB2 hS2 hb HA
        have y1 : (w3.alloc (.cells #[.int .i64 A.1, .int .i64 A.2] 24)).cell? ⟨wr.heap.size, 0, none⟩ = some (.int .i64 f) := b13bn.cell 0
        have y2 : (w3.alloc (.cells #[.int .i64 A.1, .int .i64 A.2] 24)).cell? ⟨wr.heap.size, 1, none⟩ = some (.int .i64 t) := b13bn.cell 1
        go_wp2_with fail
        clear y1 y2
        generalize w3.alloc (.cells #[.int .i64 A.1, .int .i64 A.2] 24) = v3 at b13bn c3 hBn hSn ⊢
        have b13b := b13bn
        have hB2 := hBn
        have hS2 := hSn
        clear b13bn hBn hSn
        refine (HB.out v3 hS2).mono ?_
        rintro e w4 ⟨rfl, hb⟩
        have b13bn := (b13b.below hb b13b.lt).alloc (.cells #[.int .i64 B.1, .int .i64 B.2] 24)
        have c3n := (c3.below hb c3.lt).alloc (.cells #[.int .i64 B.1, .int .i64 B.2] 24)
        have c4 := Blk.new w4 24 #[.int .i64 B.1, .int .i64 B.2]
        have hBn := bal (btr hB2 hb) (.cells #[.int .i64 B.1, .int .i64 B.2] 24)
        have hSn := (hS2.below (bal hb (.cells #[.int .i64 B.1, .int .i64 B.2] 24)) (Nat.le_refl _)).mono (bal hb (.cells #[.int .i64 B.1, .int .i64 B.2] 24)).size
        clear b13b c3 hB2 hS2 hb HB
        have y1 : (w4.alloc (.cells #[.int .i64 B.1, .int .i64 B.2] 24)).cell? ⟨wr.heap.size, 0, none⟩ = some (.int .i64 f) := b13bn.cell 0
        have y2 : (w4.alloc (.cells #[.int .i64 B.1, .int .i64 B.2] 24)).cell? ⟨wr.heap.size, 1, none⟩ = some (.int .i64 t) := b13bn.cell 1
        go_wp2_with fail
        clear y1 y2
        generalize w4.alloc (.cells #[.int .i64 B.1, .int .i64 B.2] 24) = v4 at b13bn c3n c4 hBn hSn ⊢
        have b13b := b13bn
        have c3 := c3n
        have hB2 := hBn
        have hS2 := hSn
        clear b13bn c3n hBn hSn
        refine (HC.out v4 hS2).mono ?_
        rintro e w5 ⟨rfl, hb⟩
        have b13bn := (b13b.below hb b13b.lt).alloc (.cells #[.int .i64 C.1, .int .i64 C.2] 24)
        have c3n := (c3.below hb c3.lt).alloc (.cells #[.int .i64 C.1, .int .i64 C.2] 24)
        have c4n := (c4.below hb c4.lt).alloc (.cells #[.int .i64 C.1, .int .i64 C.2] 24)
        have c5 := Blk.new w5 24 #[.int .i64 C.1, .int .i64 C.2]
        have hBn := bal (btr hB2 hb) (.cells #[.int .i64 C.1, .int .i64 C.2] 24)
        have hSn := (hS2.below (bal hb (.cells #[.int .i64 C.1, .int .i64 C.2] 24)) (Nat.le_refl _)).mono (bal hb (.cells #[.int .i64 C.1, .int .i64 C.2] 24)).size
        clear b13b c3 c4 hB2 hS2 hb HC
        by_cases ha : ae = 0
        · have qa : (ae != 0) = false := by simp [ha]
          by_cases hbz : be = 0
          · have qb : (be != 0) = false := by simp [hbz]
            by_cases hfm : f < m
            · have qf : ¬ m ≤ f := by omega
              by_cases hmt : m < t
              · have qm : ¬ t ≤ m := by omega
                obtain ⟨hce, hcc⟩ := H2.out ha hbz hfm hmt
                have qc : (ce == 0) = true := by simp [hce]
                have HH := Lib.hid (hull_any A B)
                rw [← hcc] at HH
                clear H2 hSn b13bn hce hcc ha hbz hfm hmt
                go_wp2_with fail
                generalize w5.alloc (.cells #[.int .i64 C.1, .int .i64 C.2] 24) = v5 at c3n c4n c5 hBn ⊢
                have q31 : ∀ p : Past v5, p.w.cell? ⟨w3.heap.size, 0, none⟩ = some (.int .i64 A.1) := fun p => (c3n.below p.h c3n.lt).cell 0
                have q32 : ∀ p : Past v5, p.w.cell? ⟨w3.heap.size, 1, none⟩ = some (.int .i64 A.2) := fun p => (c3n.below p.h c3n.lt).cell 1
                have q41 : ∀ p : Past v5, p.w.cell? ⟨w4.heap.size, 0, none⟩ = some (.int .i64 B.1) := fun p => (c4n.below p.h c4n.lt).cell 0
                have q42 : ∀ p : Past v5, p.w.cell? ⟨w4.heap.size, 1, none⟩ = some (.int .i64 B.2) := fun p => (c4n.below p.h c4n.lt).cell 1
                have q51 : ∀ p : Past v5, p.w.cell? ⟨w5.heap.size, 0, none⟩ = some (.int .i64 C.1) := fun p => (c5.below p.h c5.lt).cell 0
                have q52 : ∀ p : Past v5, p.w.cell? ⟨w5.heap.size, 1, none⟩ = some (.int .i64 C.2) := fun p => (c5.below p.h c5.lt).cell 1
                clear c3n c4n c5
                refine wp_region_past (w0 := v5) (by kernel_rfl) (by kernel_rfl) (Below.refl _ _) ?_
                repeat (go_big_quiet_step ((first | with_reducible exact Calls.past (awake_span _) | with_reducible exact Calls.past (HH.out _))))
                refine wpQuiet_nil ?_
                intro p
                have HB6 := Lib.hid (btr hBn p.h)
                go_wp2
                go_ret
                exact ⟨rfl, HB6.out⟩
              · have qm : t ≤ m := by omega
                clear b13bn c3n c4n c5 hSn H2 ha hbz hfm hmt
                go_wp2_with fail
                generalize w5.alloc (.cells #[.int .i64 C.1, .int .i64 C.2] 24) = v5 at hBn ⊢
                refine (awake_span v5).mono ?_
                rintro e w6 ⟨rfl, hb⟩
                have HB6 := Lib.hid (btr hBn hb)
                clear hBn hb
                go_wp2
                go_ret
                exact ⟨rfl, HB6.out⟩
            · have qf : m ≤ f := by omega
              clear b13bn c3n c4n c5 hSn H2 ha hbz hfm
              go_wp2_with fail
              generalize w5.alloc (.cells #[.int .i64 C.1, .int .i64 C.2] 24) = v5 at hBn ⊢
              refine (awake_span v5).mono ?_
              rintro e w6 ⟨rfl, hb⟩
              have HB6 := Lib.hid (btr hBn hb)
              clear hBn hb
              go_wp2
              go_ret
              exact ⟨rfl, HB6.out⟩
          · have qb : (be != 0) = true := by simp [hbz]
            clear b13bn c3n c4n c5 hSn H2 ha hbz
            go_wp2_with fail
            generalize w5.alloc (.cells #[.int .i64 C.1, .int .i64 C.2] 24) = v5 at hBn ⊢
            refine (awake_span v5).mono ?_
            rintro e w6 ⟨rfl, hb⟩
            have HB6 := Lib.hid (btr hBn hb)
            clear hBn hb
            go_wp2
            go_ret
            exact ⟨rfl, HB6.out⟩
        · have qa : (ae != 0) = true := by simp [ha]
          clear b13bn c3n c4n c5 hSn H2 ha
          go_wp2_with fail
          generalize w5.alloc (.cells #[.int .i64 C.1, .int .i64 C.2] 24) = v5 at hBn ⊢
          refine (awake_span v5).mono ?_
          rintro e w6 ⟨rfl, hb⟩
          have HB6 := Lib.hid (btr hBn hb)
          clear hBn hb
          go_wp2
          go_ret
          exact ⟨rfl, HB6.out⟩
      | false =>
        obtain ⟨o1, o2⟩ := (th_own k (f, t)).2 hr
        rw [o1, o2] at HO
        rw [chk_f hr] at HK
        clear o1 o2 hr
        go_wp2_with fail
        generalize wr.alloc (.cells #[.int .i64 f, .int .i64 t] 24) = wa at b13 hBa hata hSa ⊢
        refine (HO.out wa oo oc ho1 ho2 hata).mono ?_
        rintro e w1 ⟨rfl, hb⟩
        have b13a := (b13.below hb b13.lt).alloc (.cells #[.int .i64 0, .int .i64 0] 24)
        have b14 := Blk.new w1 24 #[.int .i64 0, .int .i64 0]
        have hB1 := bal (btr hBa hb) (.cells #[.int .i64 0, .int .i64 0] 24)
        have hS1 := (hSa.below (bal hb (.cells #[.int .i64 0, .int .i64 0] 24)) (Nat.le_refl _)).mono (bal hb (.cells #[.int .i64 0, .int .i64 0] 24)).size
        clear b13 hBa hSa hata hb HO ho1 ho2
        have y1 : (w1.alloc (.cells #[.int .i64 0, .int .i64 0] 24)).cell? ⟨wr.heap.size, 0, none⟩ = some (.int .i64 f) := b13a.cell 0
        have y2 : (w1.alloc (.cells #[.int .i64 0, .int .i64 0] 24)).cell? ⟨wr.heap.size, 1, none⟩ = some (.int .i64 t) := b13a.cell 1
        go_wp2_with fail
        clear y1 y2
        generalize w1.alloc (.cells #[.int .i64 0, .int .i64 0] 24) = v1 at b13a b14 hB1 hS1 ⊢
        refine (HK.out v1).mono ?_
        rintro e w2 ⟨rfl, hb⟩
        have b13b := b13a.below hb b13a.lt
        have b14b := b14.below hb b14.lt
        have hB2 := btr hB1 hb
        have hS2 := (hS1.below hb (Nat.le_refl _)).mono hb.size
        clear b13a b14 hB1 hS1 hb HK
        have y1 : w2.cell? ⟨wr.heap.size, 0, none⟩ = some (.int .i64 f) := b13b.cell 0
        have y2 : w2.cell? ⟨wr.heap.size, 1, none⟩ = some (.int .i64 t) := b13b.cell 1
        have y3 : w2.cell? ⟨w1.heap.size, 0, none⟩ = some (.int .i64 0) := b14b.cell 0
        have y4 : w2.cell? ⟨w1.heap.size, 1, none⟩ = some (.int .i64 0) := b14b.cell 1
        go_wp2_with fail
        clear y1 y2 y3 y4 b14b
        refine (HA.out w2 hS2).mono ?_
        rintro e w3 ⟨rfl, hb⟩
        have b13bn := (b13b.below hb b13b.lt).alloc (.cells #[.int .i64 A.1, .int .i64 A.2] 24)
        have c3 := Blk.new w3 24 #[.int .i64 A.1, .int .i64 A.2]
        have hBn := bal (btr hB2 hb) (.cells #[.int .i64 A.1, .int .i64 A.2] 24)
        have hSn := (hS2.below (bal hb (.cells #[.int .i64 A.1, .int .i64 A.2] 24)) (Nat.le_refl _)).mono (bal hb (.cells #[.int .i64 A.1, .int .i64 A.2] 24)).size
        clear b13b hB2 hS2 hb HA
        have y1 : (w3.alloc (.cells #[.int .i64 A.1, .int .i64 A.2] 24)).cell? ⟨wr.heap.size, 0, none⟩ = some (.int .i64 f) := b13bn.cell 0
        have y2 : (w3.alloc (.cells #[.int .i64 A.1, .int .i64 A.2] 24)).cell? ⟨wr.heap.size, 1, none⟩ = some (.int .i64 t) := b13bn.cell 1
        go_wp2_with fail
        clear y1 y2
        generalize w3.alloc (.cells #[.int .i64 A.1, .int .i64 A.2] 24) = v3 at b13bn c3 hBn hSn ⊢
        have b13b := b13bn
        have hB2 := hBn
        have hS2 := hSn
        clear b13bn hBn hSn
        refine (HB.out v3 hS2).mono ?_
        rintro e w4 ⟨rfl, hb⟩
        have b13bn := (b13b.below hb b13b.lt).alloc (.cells #[.int .i64 B.1, .int .i64 B.2] 24)
        have c3n := (c3.below hb c3.lt).alloc (.cells #[.int .i64 B.1, .int .i64 B.2] 24)
        have c4 := Blk.new w4 24 #[.int .i64 B.1, .int .i64 B.2]
        have hBn := bal (btr hB2 hb) (.cells #[.int .i64 B.1, .int .i64 B.2] 24)
        have hSn := (hS2.below (bal hb (.cells #[.int .i64 B.1, .int .i64 B.2] 24)) (Nat.le_refl _)).mono (bal hb (.cells #[.int .i64 B.1, .int .i64 B.2] 24)).size
        clear b13b c3 hB2 hS2 hb HB
        have y1 : (w4.alloc (.cells #[.int .i64 B.1, .int .i64 B.2] 24)).cell? ⟨wr.heap.size, 0, none⟩ = some (.int .i64 f) := b13bn.cell 0
        have y2 : (w4.alloc (.cells #[.int .i64 B.1, .int .i64 B.2] 24)).cell? ⟨wr.heap.size, 1, none⟩ = some (.int .i64 t) := b13bn.cell 1
        go_wp2_with fail
        clear y1 y2
        generalize w4.alloc (.cells #[.int .i64 B.1, .int .i64 B.2] 24) = v4 at b13bn c3n c4 hBn hSn ⊢
        have b13b := b13bn
        have c3 := c3n
        have hB2 := hBn
        have hS2 := hSn
        clear b13bn c3n hBn hSn
        refine (HC.out v4 hS2).mono ?_
        rintro e w5 ⟨rfl, hb⟩
        have b13bn := (b13b.below hb b13b.lt).alloc (.cells #[.int .i64 C.1, .int .i64 C.2] 24)
        have c3n := (c3.below hb c3.lt).alloc (.cells #[.int .i64 C.1, .int .i64 C.2] 24)
        have c4n := (c4.below hb c4.lt).alloc (.cells #[.int .i64 C.1, .int .i64 C.2] 24)
        have c5 := Blk.new w5 24 #[.int .i64 C.1, .int .i64 C.2]
        have hBn := bal (btr hB2 hb) (.cells #[.int .i64 C.1, .int .i64 C.2] 24)
        have hSn := (hS2.below (bal hb (.cells #[.int .i64 C.1, .int .i64 C.2] 24)) (Nat.le_refl _)).mono (bal hb (.cells #[.int .i64 C.1, .int .i64 C.2] 24)).size
        clear b13b c3 c4 hB2 hS2 hb HC
        by_cases ha : ae = 0
        · have qa : (ae != 0) = false := by simp [ha]
          by_cases hbz : be = 0
          · have qb : (be != 0) = false := by simp [hbz]
            by_cases hfm : f < m
            · have qf : ¬ m ≤ f := by omega
              by_cases hmt : m < t
              · have qm : ¬ t ≤ m := by omega
                obtain ⟨hce, hcc⟩ := H2.out ha hbz hfm hmt
                have qc : (ce == 0) = true := by simp [hce]
                have HH := Lib.hid (hull_any A B)
                rw [← hcc] at HH
                clear H2 hSn b13bn hce hcc ha hbz hfm hmt
                go_wp2_with fail
                generalize w5.alloc (.cells #[.int .i64 C.1, .int .i64 C.2] 24) = v5 at c3n c4n c5 hBn ⊢
                have q31 : ∀ p : Past v5, p.w.cell? ⟨w3.heap.size, 0, none⟩ = some (.int .i64 A.1) := fun p => (c3n.below p.h c3n.lt).cell 0
                have q32 : ∀ p : Past v5, p.w.cell? ⟨w3.heap.size, 1, none⟩ = some (.int .i64 A.2) := fun p => (c3n.below p.h c3n.lt).cell 1
                have q41 : ∀ p : Past v5, p.w.cell? ⟨w4.heap.size, 0, none⟩ = some (.int .i64 B.1) := fun p => (c4n.below p.h c4n.lt).cell 0
                have q42 : ∀ p : Past v5, p.w.cell? ⟨w4.heap.size, 1, none⟩ = some (.int .i64 B.2) := fun p => (c4n.below p.h c4n.lt).cell 1
                have q51 : ∀ p : Past v5, p.w.cell? ⟨w5.heap.size, 0, none⟩ = some (.int .i64 C.1) := fun p => (c5.below p.h c5.lt).cell 0
                have q52 : ∀ p : Past v5, p.w.cell? ⟨w5.heap.size, 1, none⟩ = some (.int .i64 C.2) := fun p => (c5.below p.h c5.lt).cell 1
                clear c3n c4n c5
                refine wp_region_past (w0 := v5) (by kernel_rfl) (by kernel_rfl) (Below.refl _ _) ?_
                repeat (go_big_quiet_step ((first | with_reducible exact Calls.past (awake_span _) | with_reducible exact Calls.past (HH.out _))))
                refine wpQuiet_nil ?_
                intro p
                have HB6 := Lib.hid (btr hBn p.h)
                go_wp2
                go_ret
                exact ⟨rfl, HB6.out⟩
              · have qm : t ≤ m := by omega
                clear b13bn c3n c4n c5 hSn H2 ha hbz hfm hmt
                go_wp2_with fail
                generalize w5.alloc (.cells #[.int .i64 C.1, .int .i64 C.2] 24) = v5 at hBn ⊢
                refine (awake_span v5).mono ?_
                rintro e w6 ⟨rfl, hb⟩
                have HB6 := Lib.hid (btr hBn hb)
                clear hBn hb
                go_wp2
                go_ret
                exact ⟨rfl, HB6.out⟩
            · have qf : m ≤ f := by omega
              clear b13bn c3n c4n c5 hSn H2 ha hbz hfm
              go_wp2_with fail
              generalize w5.alloc (.cells #[.int .i64 C.1, .int .i64 C.2] 24) = v5 at hBn ⊢
              refine (awake_span v5).mono ?_
              rintro e w6 ⟨rfl, hb⟩
              have HB6 := Lib.hid (btr hBn hb)
              clear hBn hb
              go_wp2
              go_ret
              exact ⟨rfl, HB6.out⟩
          · have qb : (be != 0) = true := by simp [hbz]
            clear b13bn c3n c4n c5 hSn H2 ha hbz
            go_wp2_with fail
            generalize w5.alloc (.cells #[.int .i64 C.1, .int .i64 C.2] 24) = v5 at hBn ⊢
            refine (awake_span v5).mono ?_
            rintro e w6 ⟨rfl, hb⟩
            have HB6 := Lib.hid (btr hBn hb)
            clear hBn hb
            go_wp2
            go_ret
            exact ⟨rfl, HB6.out⟩
        · have qa : (ae != 0) = true := by simp [ha]
          clear b13bn c3n c4n c5 hSn H2 ha
          go_wp2_with fail
          generalize w5.alloc (.cells #[.int .i64 C.1, .int .i64 C.2] 24) = v5 at hBn ⊢
          refine (awake_span v5).mono ?_
          rintro e w6 ⟨rfl, hb⟩
          have HB6 := Lib.hid (btr hBn hb)
          clear hBn hb
          go_wp2
          go_ret
          exact ⟨rfl, HB6.out⟩

theorem spanThrough_walk (ao : Option Addr) (len cap : Nat) (L : List Sp) (f m t n : Int) (hl : L.length = len) (hcap : len ≤ cap) (hcm : cap ≤ maxLen) (w : World) (hS : PAt w ao L w.heap.size) :
    Calls Try.prog 5 #[.slice ao len cap, .int .i64 f, .int .i64 m, .int .i64 t, .int .i64 n] w fun e w' => e = .returned (.bool true) ∧ Below w.heap.size w w' := by
  by_cases h1 : len ≤ 200
  · have g1 : ¬ (200 : Int) < (len : Int) := by omega
    by_cases h2 : 0 ≤ n
    · by_cases h3 : n ≤ 200
      · obtain ⟨N, rfl⟩ : ∃ N : Nat, n = N := ⟨n.toNat, by omega⟩
        exact spanThrough_main ao len cap L f m t N hl hcap hcm h1 (by omega) w hS
      · clear hS hl
        go_enter Try.func5, Try.ntmps5
        go_wp2
        go_ret
        exact ⟨rfl, Below.refl _ _⟩
    · clear hS hl
      go_enter Try.func5, Try.ntmps5
      go_wp2
      go_ret
      exact ⟨rfl, Below.refl _ _⟩
  · have g1 : (200 : Int) < (len : Int) := by omega
    clear hS hl
    go_enter Try.func5, Try.ntmps5
    go_wp2
    go_ret
    exact ⟨rfl, Below.refl _ _⟩
end Go.Proofs.Ytbmkacleeboeeaa
