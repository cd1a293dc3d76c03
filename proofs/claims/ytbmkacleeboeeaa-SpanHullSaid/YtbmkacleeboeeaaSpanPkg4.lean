/-
  Package span (the landed code): Through. Conditions: the row lies in memory as a slice.
-/
import Derived.Test.YtbmkacleeboeeaaSpanPkg3
namespace Go.Proofs.Ytbmkacleeboeeaa
open Go.RowKit

theorem right_any (x : Sp) (n : Int) (B : Nat) (w : World) (hn : w.cell? ⟨B, 0, none⟩ = some (.int .i64 n)) (hB : B < w.heap.size) :
    Calls Try.prog 18 #[pv x, .pointer (some ⟨B, 0, none⟩)] w fun e w' => e = .returned (.bool (rt x n)) ∧ Below w.heap.size w w' := by
  have hA := bal0 w (.cells #[.int .i64 x.1, .int .i64 x.2] 24)
  have hn' : (w.alloc (.cells #[.int .i64 x.1, .int .i64 x.2] 24)).cell? ⟨B, 0, none⟩ = some (.int .i64 n) := (hA.cell (p := ⟨B, _, none⟩) hB).trans hn
  clear hn
  cases hq : rt x n with
  | true =>
    have CK := Lib.hid (check_any x.1 x.2 n)
    rw [chk_t (show rt (x.1, x.2) n = true from hq)] at CK
    clear hq
    go_enter Try.func18, Try.ntmps18
    go_wp2_with fail
    refine (CK.out _).mono ?_
    rintro e w1 ⟨rfl, hb⟩
    have hB1 := btr hA hb
    clear hA hn' hb CK
    go_wp2
    go_ret
    exact ⟨rfl, hB1⟩
  | false =>
    have CK := Lib.hid (check_any x.1 x.2 n)
    rw [chk_f (show rt (x.1, x.2) n = false from hq)] at CK
    clear hq
    go_enter Try.func18, Try.ntmps18
    go_wp2_with fail
    refine (CK.out _).mono ?_
    rintro e w1 ⟨rfl, hb⟩
    have hB1 := btr hA hb
    clear hA hn' hb CK
    go_wp2
    go_ret
    exact ⟨rfl, hB1⟩

set_option maxRecDepth 100000 in
theorem each_any (ao : Option Addr) (len cap : Nat) (L : List Sp) (n : Int) (B : Nat) (hl : L.length = len) (hm : len ≤ 1099511627776) (w : World) (hS : PAt w ao L w.heap.size) (hn : w.cell? ⟨B, 0, none⟩ = some (.int .i64 n)) (hBl : B < w.heap.size) :
    Calls Try.prog 19 #[.slice ao len cap, .func (.func 18) #[] #[.pointer (some ⟨B, 0, none⟩)]] w fun e w' => e = .returned (.bool (rts L n)) ∧ Below w.heap.size w w' := by
  have HC := Lib.hid (show 0 < len → ∃ g off, ao = some ⟨g, off, none⟩ ∧ g < w.heap.size ∧ ∀ i, i < len → ∀ W : World, Below w.heap.size w W → W.cell? ⟨g, off + i * 2, none⟩ = some (.int .i64 (L.getD i (0, 0)).1) ∧ W.cell? ⟨g, off + i * 2 + 1, none⟩ = some (.int .i64 (L.getD i (0, 0)).2) from fun h => by
      obtain ⟨g, off, rfl, hg, hc⟩ := hS (by omega)
      exact ⟨g, off, rfl, hg, fun i hi W hb => ⟨(hb.cell (p := ⟨g, _, none⟩) hg).trans (hc i (by omega)).1, (hb.cell (p := ⟨g, _, none⟩) hg).trans (hc i (by omega)).2⟩⟩)
  have HL := Lib.hid hl
  have HN := Lib.hid hn
  clear hS hl hn
  go_enter Try.func19, Try.ntmps19
  go_wp2
  go_loopw [9] (fun i wr => ∃ j : Nat, j ≤ len ∧ i = .int .i64 j ∧ (∀ k, k < j → rt (L.getD k (0, 0)) n = true) ∧ Below w.heap.size w wr)
    (fun i _ => len - (intOf i).toNat)
  case atStart => exact ⟨0, Nat.zero_le _, rfl, fun k hk => absurd hk (Nat.not_lt_zero _), Below.refl _ _⟩
  case round =>
    obtain ⟨j, hj, rfl, hr, hB⟩ := hrel
    have HR := Lib.hid hr
    clear hr
    by_cases hlt : j < len
    · obtain ⟨g, off, rfl, hg, hc⟩ := HC.out (by omega)
      obtain ⟨e1, e2⟩ := hc j hlt wr hB
      have i0 : (0 : Int) ≤ (j : Int) := by omega
      have i1 : (j : Int) < (len : Int) := by omega
      obtain ⟨x, hx⟩ : ∃ x, L.getD j (0, 0) = x := ⟨_, rfl⟩
      rw [hx] at e1 e2
      have HX := Lib.hid hx
      have hBa := bal hB (.cells #[.int .i64 x.1, .int .i64 x.2] 24)
      have HQ := Lib.hid (right_any x n B (wr.alloc (.cells #[.int .i64 x.1, .int .i64 x.2] 24)) ((hBa.cell (p := ⟨B, _, none⟩) hBl).trans HN.out) (Nat.lt_of_lt_of_le hBl hBa.size))
      clear hc hx
      cases hq : rt x n with
      | true =>
        rw [hq] at HQ
        have HT := Lib.hid hq
        clear hq
        go_wp2_with fail
        refine HQ.out.mono ?_
        rintro e w2 ⟨rfl, hb2⟩
        have hB2 := btr hBa hb2
        clear hB hBa hb2 e1 e2 HQ
        go_wp2
        go_roundw
        case rel =>
          refine ⟨j + 1, by omega, by go_num, fun k hk => ?_, hB2⟩
          rcases Nat.lt_or_ge k j with h | h
          · exact HR.out k h
          · obtain rfl : k = j := by omega
            rw [HX.out]
            exact HT.out
        case measure => simp [intOf]; omega
      | false =>
        rw [hq] at HQ
        have HT := Lib.hid (rts_false (L := L) (n := n) (i := j) (by rw [HL.out]; exact hlt) (by rw [HX.out]; exact hq))
        clear hq
        go_wp2_with fail
        refine HQ.out.mono ?_
        rintro e w2 ⟨rfl, hb2⟩
        have hB2 := btr hBa hb2
        clear hB hBa hb2 e1 e2 HQ
        go_wp2
        go_ret
        exact ⟨by rw [HT.out]; rfl, hB2⟩
    · obtain rfl : j = len := by omega
      have HT := Lib.hid (rts_true (L := L) (n := n) fun i hi => HR.out i (by rw [HL.out] at hi; exact hi))
      go_wp2
      go_ret
      exact ⟨by rw [HT.out]; rfl, hB⟩

theorem place_any (ao : Option Addr) (len cap : Nat) (L : List Sp) (p : Nat) (b : Int) (hl : L.length = len) (hm : len ≤ 1099511627776) (hp : p ≤ len) (w : World) (hS : PAt w ao L w.heap.size) :
    Calls Try.prog 20 #[.slice ao len cap, .int .i64 (p : Int)] w fun e w' => e = .returned (.int .i64 (spot L ((p : Int), b))) ∧ w' = w := by
  by_cases h0 : 0 < p
  · have hw1 : IntKind.i64.wrap ((p : Int) - 1) = (p : Int) - 1 := IntWalk.i64_in _ (by omega)
    have i1 : (0 : Int) < (p : Int) := by omega
    have i2 : (0 : Int) ≤ (p : Int) - 1 := by omega
    have i3 : (p : Int) - 1 < (len : Int) := by omega
    have i4 : ((p : Int) - 1).toNat = p - 1 := by omega
    have i5 : (1 : Int) ≤ (p : Int) := by omega
    obtain ⟨g, off, rfl, hg, hc⟩ := hS (by omega)
    obtain ⟨e1, e2⟩ := hc (p - 1) (by omega)
    have hs : spot L ((p : Int), b) = (L.getD (p - 1) (0, 0)).2 := by
      unfold spot
      rw [if_pos i1, i4]
    rw [hs]
    generalize L.getD (p - 1) (0, 0) = z at *
    clear hc hs hl
    go_enter Try.func20, Try.ntmps20
    go_wp2
    go_ret
    exact ⟨rfl, rfl⟩
  · obtain rfl : p = 0 := by omega
    by_cases hj0 : 0 < len
    · obtain ⟨g, off, rfl, hg, hc⟩ := hS (by omega)
      obtain ⟨e1, e2⟩ := hc 0 (by omega)
      rw [Nat.zero_mul, Nat.add_zero] at e1
      have hs : spot L (((0 : Nat) : Int), b) = (L.getD 0 (0, 0)).1 := by
        unfold spot
        rw [if_neg (by simp), if_pos (by rw [hl]; exact hj0)]
      rw [hs]
      have i1 : (0 : Int) < (len : Int) := by omega
      generalize L.getD 0 (0, 0) = z at *
      clear hc hs e2 hl
      go_enter Try.func20, Try.ntmps20
      go_wp2
      go_ret
      exact ⟨rfl, rfl⟩
    · have hs : spot L (((0 : Nat) : Int), b) = 0 := by
        unfold spot
        rw [if_neg (by simp), if_neg (by rw [hl]; exact hj0)]
      rw [hs]
      have i1 : ¬ (0 : Int) < (len : Int) := by omega
      clear hs hl hS
      go_enter Try.func20, Try.ntmps20
      go_wp2
      go_ret
      exact ⟨rfl, rfl⟩

set_option maxHeartbeats 1000000 in
set_option maxRecDepth 100000 in
theorem through_any (ao : Option Addr) (len cap : Nat) (L : List Sp) (a b n : Int) (hl : L.length = len) (hm : len ≤ 1099511627776) (hcap : len ≤ cap) (hcm : cap ≤ maxLen) (w : World) (hS : PAt w ao L w.heap.size) :
    Calls Try.prog 8 #[.slice ao len cap, pv (a, b), .int .i64 n] w fun e w' => e = .returned (.tuple #[pv (thS L (a, b) n), .int .i64 (thE L (a, b) n)]) ∧ Below w.heap.size w w' := by
  by_cases hn : n < 0
  · have HT := Lib.hid (th_neg (L := L) (s := (a, b)) hn)
    clear hS hl
    go_enter Try.func8, Try.ntmps8
    go_wp2
    exact bodyPost_ret (v := .tuple #[pv (0, 0), .int .i64 1]) (by simp [results, Try.results8, go_sem]) rfl ⟨by rw [HT.out.1, HT.out.2], bal (bal (bal0 _ _) _) _⟩
  have hV := ((Blk.new w 24 #[.int .i64 a, .int .i64 b]).alloc (.cells #[.int .i64 n] 3)).alloc (.cells #[.int .i64 0, .int .i64 0] 24)
  have hN := (Blk.new (w.alloc (.cells #[.int .i64 a, .int .i64 b] 24)) 3 #[.int .i64 n]).alloc (.cells #[.int .i64 0, .int .i64 0] 24)
  have hR := Blk.new ((w.alloc (.cells #[.int .i64 a, .int .i64 b] 24)).alloc (.cells #[.int .i64 n] 3)) 24 #[.int .i64 0, .int .i64 0]
  rw [show ((w.alloc (.cells #[.int .i64 a, .int .i64 b] 24)).alloc (.cells #[.int .i64 n] 3)).heap.size = w.heap.size + 1 + 1 by simp only [World.size_alloc]] at hR
  rw [show (w.alloc (.cells #[.int .i64 a, .int .i64 b] 24)).heap.size = w.heap.size + 1 by simp only [World.size_alloc]] at hN
  have hB := bal (bal (bal0 w (.cells #[.int .i64 a, .int .i64 b] 24)) (.cells #[.int .i64 n] 3)) (.cells #[.int .i64 0, .int .i64 0] 24)
  have HE := Lib.hid (each_any ao len cap L n (w.heap.size + 1) hl hm _ ((hS.below hB (Nat.le_refl _)).mono hB.size) (hN.cell 0) hN.lt)
  have HC := Lib.hid (show 0 < len → ∃ g off, ao = some ⟨g, off, none⟩ ∧ g < w.heap.size ∧ ∀ i, i < len → ∀ W : World, Below w.heap.size w W → W.cell? ⟨g, off + i * 2, none⟩ = some (.int .i64 (L.getD i (0, 0)).1) ∧ W.cell? ⟨g, off + i * 2 + 1, none⟩ = some (.int .i64 (L.getD i (0, 0)).2) from fun h => by
      obtain ⟨g, off, rfl, hg, hc⟩ := hS (by omega)
      exact ⟨g, off, rfl, hg, fun i hi W hb => ⟨(hb.cell (p := ⟨g, _, none⟩) hg).trans (hc i (by omega)).1, (hb.cell (p := ⟨g, _, none⟩) hg).trans (hc i (by omega)).2⟩⟩)
  have HS := Lib.hid hS
  have HL := Lib.hid hl
  clear hS hl hN
  cases hq : rts L n with
  | false =>
    have HT := Lib.hid (th_row (L := L) (s := (a, b)) (n := n) hq)
    rw [hq] at HE
    clear hq HC HS HL hV
    go_enter Try.func8, Try.ntmps8
    go_wp2_with fail
    refine HE.out.mono ?_
    rintro e w1 ⟨rfl, hb⟩
    have hR1 := hR.below hb hR.lt
    have hB1 := btr hB hb
    clear hR hB hb HE
    have g1 := hR1.frozen 0
    have g2 := hR1.frozen 1
    have r1 := hR1.cell 0
    have r2 := hR1.cell 1
    simp at r1 r2
    have q := hR1.two (.int .i64 0) (.int .i64 0)
    go_wp2
    exact bodyPost_ret (v := .tuple #[pv (0, 0), .int .i64 1]) (by simp [results, Try.results8, go_sem, q.1, q.2]) rfl ⟨by rw [HT.out.1, HT.out.2], (hB1.setCell (by simp; omega) _).setCell (by simp; omega) _⟩
  | true =>
    have HRT := Lib.hid hq
    rw [hq] at HE
    clear hq
    go_enter Try.func8, Try.ntmps8
    go_wp2_with fail
    refine HE.out.mono ?_
    rintro e w1 ⟨rfl, hb⟩
    have hR1 := hR.below hb hR.lt
    have hV1 := hV.below hb hV.lt
    have hB1 := btr hB hb
    clear hR hV hB hb HE
    have v1 := hV1.cell 0
    have v2 := hV1.cell 1
    simp at v1 v2
    cases hq : rt (a, b) len with
    | false =>
      have HT := Lib.hid (th_span (L := L) (s := (a, b)) (n := n) (by rw [HL.out]; exact hq))
      have CK := Lib.hid (check_any a b len)
      rw [chk_f hq] at CK
      clear hq HC HS
      go_wp2_with fail
      refine (CK.out _).mono ?_
      rintro e w2 ⟨rfl, hb⟩
      have hR2 := hR1.below hb hR1.lt
      have hB2 := btr hB1 hb
      clear hR1 hV1 hB1 hb CK v1 v2
      have g1 := hR2.frozen 0
      have g2 := hR2.frozen 1
      have r1 := hR2.cell 0
      have r2 := hR2.cell 1
      simp at r1 r2
      have q := hR2.two (.int .i64 0) (.int .i64 0)
      go_wp2
      exact bodyPost_ret (v := .tuple #[pv (0, 0), .int .i64 1]) (by simp [results, Try.results8, go_sem, q.1, q.2]) rfl ⟨by rw [HT.out.1, HT.out.2], (hB2.setCell (by simp; omega) _).setCell (by simp; omega) _⟩
    | true =>
      have CK := Lib.hid (check_any a b len)
      rw [chk_t hq] at CK
      have HOK := Lib.hid (th_ok (L := L) (s := (a, b)) (n := n) (by omega) HRT.out (by rw [HL.out]; exact hq))
      obtain ⟨k1, k2, k3⟩ := rt_spec.1 hq
      simp only at k1 k2 k3
      clear hq HRT
      go_wp2_with fail
      refine (CK.out _).mono ?_
      rintro e w2 ⟨rfl, hb⟩
      have hR2 := hR1.below hb hR1.lt
      have hV2 := hV1.below hb hV1.lt
      have hB2 := btr hB1 hb
      clear hR1 hV1 hB1 hb CK v1 v2
      obtain ⟨p, rfl⟩ : ∃ p : Nat, a = p := ⟨a.toNat, by omega⟩
      obtain ⟨q, rfl⟩ : ∃ q : Nat, b = q := ⟨b.toNat, by omega⟩
      have v1 := hV2.cell 0
      have v2 := hV2.cell 1
      simp at v1 v2
      by_cases hab : (p : Int) < (q : Int)
      · have HT := Lib.hid (th_part HOK.out hab)
        obtain ⟨g, off, rfl, hg, hc⟩ := HC.out (by omega)
        have HA := Lib.hid (all_any _ (q - p) (cap - p) (part L p q) (part_length L p q (by rw [HL.out]; omega)) (by omega) (by omega) (by omega) w2 (PAt.part (off := off) HL.out (by omega) (Nat.lt_of_lt_of_le hg hB2.size) fun i hi => hc i hi w2 hB2))
        rw [allE_pos (by rw [part_length L p q (by rw [HL.out]; omega)]; omega)] at HA
        simp only [Int.toNat_natCast] at HT
        generalize allS (part L p q) = z at HA HT
        have i0 : ((p : Int) == (q : Int)) = false := by rw [beq_eq_false_iff_ne]; omega
        have i0' : ¬ p = q := by omega
        have i1 : (p : Int) ≤ (q : Int) := by omega
        have i2 : (q : Int) ≤ (cap : Int) := by omega
        have i3 : ¬ cap = p := by omega
        clear hc
        go_wp2_with fail
        refine HA.out.mono ?_
        rintro e w3 ⟨rfl, hb3⟩
        have hR3 := hR2.below hb3 hR2.lt
        have hB3 := btr hB2 hb3
        clear hV2 hR2 hB2 hb3 v1 v2
        have r1 := hR3.cell 0
        have r2 := hR3.cell 1
        simp at r1 r2
        have g1 := hR3.frozen 0
        have g2 := hR3.frozen 1
        have Q := hR3.two (.int .i64 z.1) (.int .i64 z.2)
        go_wp2
        exact bodyPost_ret (v := .tuple #[pv z, .int .i64 0]) (by simp [results, Try.results8, go_sem, Q.1, Q.2]) rfl ⟨by rw [HT.out.1, HT.out.2], (hB3.setCell (by simp; omega) _).setCell (by simp; omega) _⟩
      · have HT := Lib.hid (th_spot HOK.out hab)
        obtain rfl : q = p := by omega
        have HP := Lib.hid (place_any ao len cap L q q HL.out hm (by omega) w2 ((HS.out.below hB2 (Nat.le_refl _)).mono hB2.size))
        generalize spot L ((q : Int), (q : Int)) = z at HP HT
        go_wp2_with fail
        refine HP.out.mono ?_
        rintro e w3 ⟨rfl, rfl⟩
        clear hV2 v1 v2 HP
        have r1 := hR2.cell 0
        have r2 := hR2.cell 1
        simp at r1 r2
        have g1 := hR2.frozen 0
        have g2 := hR2.frozen 1
        have Q := hR2.two (.int .i64 z) (.int .i64 z)
        go_wp2
        exact bodyPost_ret (v := .tuple #[pv (z, z), .int .i64 0]) (by simp [results, Try.results8, go_sem, Q.1, Q.2]) rfl ⟨by rw [HT.out.1, HT.out.2], (hB2.setCell (by simp; omega) _).setCell (by simp; omega) _⟩
end Go.Proofs.Ytbmkacleeboeeaa
