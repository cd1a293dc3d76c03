/-
  The reference's Through. Conditions: the row lies in memory as a slice.
-/
import Derived.Test.YtbmkacleeboeeaaSpanRef
namespace Go.Proofs.Ytbmkacleeboeeaa
open Go.RowKit

theorem PAt.part {W : World} {g off len p q : Nat} {L : List Sp} (hl : L.length = len) (hq : q ≤ len) (hlt : g < W.heap.size)
    (hc : ∀ i, i < len → W.cell? ⟨g, off + i * 2, none⟩ = some (.int .i64 (L.getD i (0, 0)).1) ∧ W.cell? ⟨g, off + i * 2 + 1, none⟩ = some (.int .i64 (L.getD i (0, 0)).2)) : PAt W (some ⟨g, off + p * 2, none⟩) (part L p q) W.heap.size := fun _ =>
  ⟨g, off + p * 2, rfl, hlt, fun i hi => by
    rw [part_length L p q (by omega)] at hi
    rw [part_get L p q i hi, show off + p * 2 + i * 2 = off + (p + i) * 2 by omega]
    exact hc (p + i) (by omega)⟩

set_option maxRecDepth 100000 in
theorem refthrough_any (ao : Option Addr) (len cap : Nat) (L : List Sp) (a b n : Int) (hl : L.length = len) (hm : len ≤ 1099511627776) (hcap : len ≤ cap) (hcm : cap ≤ maxLen) (w : World) (hS : PAt w ao L w.heap.size) :
    Calls Try.prog 9 #[.slice ao len cap, pv (a, b), .int .i64 n] w fun e w' => e = .returned (.tuple #[pv (thS L (a, b) n), .int .i64 (thE L (a, b) n)]) ∧ Below w.heap.size w w' := by
  by_cases hn : n < 0
  · have HT := Lib.hid (th_neg (L := L) (s := (a, b)) hn)
    clear hS hl
    go_enter Try.func9, Try.ntmps9
    go_wp2
    exact bodyPost_ret (v := .tuple #[pv (0, 0), .int .i64 1]) (by simp [results, Try.results9, go_sem]) rfl ⟨by rw [HT.out.1, HT.out.2], bal (bal0 _ _) _⟩
  have HC := Lib.hid (show 0 < len → ∃ g off, ao = some ⟨g, off, none⟩ ∧ g < w.heap.size ∧ ∀ i, i < len → ∀ W : World, Below w.heap.size w W → W.cell? ⟨g, off + i * 2, none⟩ = some (.int .i64 (L.getD i (0, 0)).1) ∧ W.cell? ⟨g, off + i * 2 + 1, none⟩ = some (.int .i64 (L.getD i (0, 0)).2) from fun h => by
      obtain ⟨g, off, rfl, hg, hc⟩ := hS (by omega)
      exact ⟨g, off, rfl, hg, fun i hi W hb => ⟨(hb.cell (p := ⟨g, _, none⟩) hg).trans (hc i (by omega)).1, (hb.cell (p := ⟨g, _, none⟩) hg).trans (hc i (by omega)).2⟩⟩)
  have HL := Lib.hid hl
  clear hS hl
  go_enter Try.func9, Try.ntmps9
  go_wp2
  go_loopw [8] (fun i wr => ∃ j : Nat, j ≤ len ∧ i = .int .i64 j ∧ (∀ k, k < j → rt (L.getD k (0, 0)) n = true) ∧ Blk wr w.heap.size 24 #[.int .i64 a, .int .i64 b] ∧ Blk wr (w.heap.size + 1) 24 #[.int .i64 0, .int .i64 0] ∧ Below w.heap.size w wr)
    (fun i _ => len - (intOf i).toNat)
  case atStart =>
    refine ⟨0, Nat.zero_le _, rfl, fun k hk => absurd hk (Nat.not_lt_zero _), (Blk.new w 24 _).alloc _, ?_, bal (bal0 _ _) _⟩
    have := Blk.new (w.alloc (.cells #[.int .i64 a, .int .i64 b] 24)) 24 #[.int .i64 0, .int .i64 0]
    rwa [World.size_alloc] at this
  case round =>
    obtain ⟨j, hj, rfl, hr, hV, hR, hB⟩ := hrel
    have HR := Lib.hid hr
    clear hr
    by_cases hlt : j < len
    · obtain ⟨g, off, rfl, hg, hc⟩ := HC.out (by omega)
      obtain ⟨e1, e2⟩ := hc j hlt wr hB
      have i0 : (0 : Int) ≤ (j : Int) := by omega
      have i1 : (j : Int) < (len : Int) := by omega
      obtain ⟨x, hx⟩ : ∃ x, L.getD j (0, 0) = x := ⟨_, rfl⟩
      rw [hx] at e1 e2
      have HX := Lib.hid hx
      clear hc hx
      go_wp2_with fail
      refine (refright_any _ _ _ _).mono ?_
      rintro e w2 ⟨rfl, hb2⟩
      have hV2 := hV.below hb2 hV.lt
      have hR2 := hR.below hb2 hR.lt
      have hB2 := btr hB hb2
      clear hV hR hB hb2 e1 e2
      cases hq : rt (x.1, x.2) n with
      | true =>
        have HQ := Lib.hid hq
        clear hq
        go_wp2
        go_roundw
        case rel =>
          refine ⟨j + 1, by omega, by go_num, fun k hk => ?_, hV2, hR2, hB2⟩
          rcases Nat.lt_or_ge k j with h | h
          · exact HR.out k h
          · obtain rfl : k = j := by omega
            rw [HX.out]
            exact HQ.out
        case measure => simp [intOf]; omega
      | false =>
        have HT := Lib.hid (th_row (L := L) (s := (a, b)) (n := n) (rts_false (i := j) (by rw [HL.out]; exact hlt) (by rw [HX.out]; exact hq)))
        clear hq
        have g1 := hR2.frozen 0
        have g2 := hR2.frozen 1
        have r1 := hR2.cell 0
        have r2 := hR2.cell 1
        simp at r1 r2
        have q := hR2.two (.int .i64 0) (.int .i64 0)
        go_wp2
        exact bodyPost_ret (v := .tuple #[pv (0, 0), .int .i64 1]) (by simp [results, Try.results9, go_sem, q.1, q.2]) rfl ⟨by rw [HT.out.1, HT.out.2], (hB2.setCell (by simp) _).setCell (by simp) _⟩
    · obtain rfl : j = len := by omega
      have HRT := Lib.hid (rts_true (L := L) (n := n) fun i hi => HR.out i (by rw [HL.out] at hi; exact hi))
      have v1 := hV.cell 0
      have v2 := hV.cell 1
      simp at v1 v2
      go_wp2_with fail
      refine (refright_any _ _ _ _).mono ?_
      rintro e w2 ⟨rfl, hb2⟩
      have hV2 := hV.below hb2 hV.lt
      have hR2 := hR.below hb2 hR.lt
      have hB2 := btr hB hb2
      clear hV hR hB hb2 v1 v2
      have v1 := hV2.cell 0
      have v2 := hV2.cell 1
      have r1 := hR2.cell 0
      have r2 := hR2.cell 1
      simp at v1 v2 r1 r2
      have g1 := hR2.frozen 0
      have g2 := hR2.frozen 1
      cases hq : rt (a, b) j with
      | false =>
        have HT := Lib.hid (th_span (L := L) (s := (a, b)) (n := n) (by rw [HL.out]; exact hq))
        clear hq
        have q := hR2.two (.int .i64 0) (.int .i64 0)
        go_wp2
        exact bodyPost_ret (v := .tuple #[pv (0, 0), .int .i64 1]) (by simp [results, Try.results9, go_sem, q.1, q.2]) rfl ⟨by rw [HT.out.1, HT.out.2], (hB2.setCell (by simp) _).setCell (by simp) _⟩
      | true =>
        have HOK := Lib.hid (th_ok (L := L) (s := (a, b)) (n := n) hn HRT.out (by rw [HL.out]; exact hq))
        obtain ⟨k1, k2, k3⟩ := rt_spec.1 hq
        simp only at k1 k2 k3
        clear hq HRT
        by_cases hab : a < b
        · have HT := Lib.hid (th_part HOK.out hab)
          obtain ⟨p, rfl⟩ : ∃ p : Nat, a = p := ⟨a.toNat, by omega⟩
          obtain ⟨q, rfl⟩ : ∃ q : Nat, b = q := ⟨b.toNat, by omega⟩
          obtain ⟨g, off, rfl, hg, hc⟩ := HC.out (by omega)
          have HA := Lib.hid (refall_any _ (q - p) (cap - p) (part L p q) (part_length L p q (by rw [HL.out]; omega)) (by omega) w2 (PAt.part (off := off) HL.out (by omega) (Nat.lt_of_lt_of_le hg hB2.size) fun i hi => hc i hi w2 hB2))
          rw [allE_pos (by rw [part_length L p q (by rw [HL.out]; omega)]; omega)] at HA
          simp only [Int.toNat_natCast] at HT
          generalize allS (part L p q) = z at HA HT
          clear hc
          go_wp2_with fail
          refine HA.out.mono ?_
          rintro e w3 ⟨rfl, hb3⟩
          have hR3 := hR2.below hb3 hR2.lt
          have hB3 := btr hB2 hb3
          clear hV2 hR2 hB2 hb3 v1 v2 r1 r2 g1 g2
          have r1 := hR3.cell 0
          have r2 := hR3.cell 1
          simp at r1 r2
          have g1 := hR3.frozen 0
          have g2 := hR3.frozen 1
          have Q := hR3.two (.int .i64 z.1) (.int .i64 z.2)
          go_wp2
          exact bodyPost_ret (v := .tuple #[pv z, .int .i64 0]) (by simp [results, Try.results9, go_sem, Q.1, Q.2]) rfl ⟨by rw [HT.out.1, HT.out.2], (hB3.setCell (by simp) _).setCell (by simp) _⟩
        · have HT := Lib.hid (th_spot HOK.out hab)
          obtain ⟨p, rfl⟩ : ∃ p : Nat, a = p := ⟨a.toNat, by omega⟩
          have hba : ¬ (p : Int) < b := hab
          by_cases hp : 0 < p
          · have hw1 : IntKind.i64.wrap ((p : Int) - 1) = (p : Int) - 1 := IntWalk.i64_in _ (by omega)
            have i1 : (0 : Int) < (p : Int) := by omega
            have i2 : (0 : Int) ≤ (p : Int) - 1 := by omega
            have i3 : (p : Int) - 1 < (j : Int) := by omega
            have i4 : ((p : Int) - 1).toNat = p - 1 := by omega
            obtain ⟨g, off, rfl, hg, hc⟩ := HC.out (by omega)
            obtain ⟨e1, e2⟩ := hc (p - 1) (by omega) w2 hB2
            have hs : spot L ((p : Int), b) = (L.getD (p - 1) (0, 0)).2 := by
              unfold spot
              rw [if_pos i1, i4]
            rw [hs] at HT
            generalize L.getD (p - 1) (0, 0) = z at *
            have Q := hR2.two (.int .i64 z.2) (.int .i64 z.2)
            clear hc hab hs
            go_wp2
            exact bodyPost_ret (v := .tuple #[pv (z.2, z.2), .int .i64 0]) (by simp [results, Try.results9, go_sem, Q.1, Q.2]) rfl ⟨by rw [HT.out.1, HT.out.2], (hB2.setCell (by simp) _).setCell (by simp) _⟩
          · obtain rfl : p = 0 := by omega
            by_cases hj0 : 0 < j
            · obtain ⟨g, off, rfl, hg, hc⟩ := HC.out hj0
              obtain ⟨e1, e2⟩ := hc 0 hj0 w2 hB2
              rw [Nat.zero_mul, Nat.add_zero] at e1
              have hs : spot L (((0 : Nat) : Int), b) = (L.getD 0 (0, 0)).1 := by
                unfold spot
                rw [if_neg (by simp), if_pos (by rw [HL.out]; exact hj0)]
              rw [hs] at HT
              have i1 : (0 : Int) < (j : Int) := by omega
              have HT' := Lib.hid HT.out
              obtain ⟨z, hz⟩ : ∃ z, L.getD 0 (0, 0) = z := ⟨_, rfl⟩
              rw [hz] at e1 HT'
              have Q := hR2.two (.int .i64 z.1) (.int .i64 z.1)
              clear hc hab hs e2 HT hz
              go_wp2
              exact bodyPost_ret (v := .tuple #[pv (z.1, z.1), .int .i64 0]) (by simp [results, Try.results9, go_sem, Q.1, Q.2]) rfl ⟨by rw [HT'.out.1, HT'.out.2], (hB2.setCell (by simp) _).setCell (by simp) _⟩
            · have hs : spot L (((0 : Nat) : Int), b) = 0 := by
                unfold spot
                rw [if_neg (by simp), if_neg (by rw [HL.out]; exact hj0)]
              rw [hs] at HT
              have i1 : ¬ (0 : Int) < (j : Int) := by omega
              have Q := hR2.two (.int .i64 0) (.int .i64 0)
              clear hab hs
              go_wp2
              exact bodyPost_ret (v := .tuple #[pv (0, 0), .int .i64 0]) (by simp [results, Try.results9, go_sem, Q.1, Q.2]) rfl ⟨by rw [HT.out.1, HT.out.2], (hB2.setCell (by simp) _).setCell (by simp) _⟩
end Go.Proofs.Ytbmkacleeboeeaa
