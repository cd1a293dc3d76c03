/-
  Layer 6's reference: a set, written. Conditions: none.
-/
import Derived.Test.YtgckhkdjjmeboaaDoorLexRef2
import Derived.Deep.CutRange
namespace Go.Proofs.YtgckhkdjjmeboaaDoor
open Go.RowKit

theorem PS.hid {W : World} {v : Value} {p : List (Nat × Nat)} (h : PS W v p) : ∃ ao cap, v = .slice ao p.length cap ∧ Hid (0 < p.length → ∃ g, ao = some ⟨g, 0, none⟩ ∧ ∀ i, i < p.length → ∀ W' : World, Below W.heap.size W W' →
    W'.cell? ⟨g, i * 2, none⟩ = some (.int .u8 (((p.getD i (0, 0)).1 : Nat) : Int)) ∧ W'.cell? ⟨g, i * 2 + 1, none⟩ = some (.int .u8 (((p.getD i (0, 0)).2 : Nat) : Int))) := by
  rcases h with ⟨rfl, rfl⟩ | ⟨g, cap, rfl, h⟩
  · exact ⟨none, 0, rfl, Lib.hid fun h => by simp at h⟩
  · refine ⟨_, cap, rfl, Lib.hid fun hp => ⟨g, rfl, fun i hi W' hb => ?_⟩⟩
    have hg : g < W.heap.size := by
      rcases Nat.lt_or_ge g W.heap.size with h' | h'
      · exact h'
      · have := (h i hi).1; simp [World.cell?, Array.getElem?_eq_none h'] at this
    exact ⟨(hb.cell (p := ⟨g, _, none⟩) hg).trans (h i hi).1, (hb.cell (p := ⟨g, _, none⟩) hg).trans (h i hi).2⟩
theorem rowsW_len (l : List (Nat × Nat)) : (rowsW l).length ≤ 9 * l.length := by
  induction l with
  | nil => simp [rowsW]
  | cons r l ih =>
    have h1 := byteL_len (UInt8.ofNat r.1)
    have h2 := byteL_len (UInt8.ofNat r.2)
    have : (rowW r).length ≤ 9 := by
      unfold rowW
      rw [List.length_append]
      split
      · simp; omega
      · rw [List.length_cons]; omega
    unfold rowsW at ih ⊢
    rw [List.flatMap_cons, List.length_append, List.length_cons]
    omega
theorem rowsW_take (l : List (Nat × Nat)) (k : Nat) (h : k < l.length) : rowsW (l.take (k + 1)) = rowsW (l.take k) ++ rowW (l.getD k (0, 0)) := by
  rw [List.take_succ_eq_append_getElem h]
  unfold rowsW
  rw [List.flatMap_append]
  simp [List.getD, h]

theorem refset_tail (b0 : List UInt8) (T : Nat → Bool) : mkS (b0 ++ rowsW (rowsOf T)) ++ ByteArray.mk #[93] = mkS (b0 ++ (rowsW (rowsOf T) ++ [93])) := bl_inj (by
  rw [bl_append, bl_mkS, bl_mkS, List.append_assoc]; rfl)
theorem ofNat_toNat8 {n : Nat} (h : n ≤ 255) : (((UInt8.ofNat n).toNat : Nat) : Int) = (n : Int) := by
  have : (UInt8.ofNat n).toNat = n := by simp; omega
  rw [this]
theorem rowW_one {r : Nat × Nat} (h : r.2 = r.1) : rowW r = byteL (UInt8.ofNat r.1) := by unfold rowW; rw [if_pos h, List.append_nil]
theorem rowW_two {r : Nat × Nat} (h : r.2 ≠ r.1) : rowW r = byteL (UInt8.ofNat r.1) ++ [45] ++ byteL (UInt8.ofNat r.2) := by unfold rowW; rw [if_neg h]; simp

set_option maxRecDepth 100000 in
set_option maxHeartbeats 2000000 in
theorem refset_any (S : Nat → Bool) (w : World) :
    Calls Tryd.prog 9 #[sv S] w fun e w' => e = .returned (.string (mkS (setW S))) ∧ Below w.heap.size w w' := by
  have hcn := bytesTo_cnt S 256
  have hS0 := Blk.new w 24 (cells4 S)
  have hB0 := bal (Below.refl w.heap.size w) (.cells (cells4 S) 24)
  by_cases hg : 128 < cnt S 256
  · have hgi : (128 : Int) < ((bytesTo S 256).length : Int) := by omega
    have HFI := Lib.hid (refset_tail [91, 94] (neg S))
    have HST := Lib.hid (show setW S = 91 :: 94 :: (rowsW (rowsOf (neg S)) ++ [93]) from if_pos hg)
    have HRB := Lib.hid (rows_bound (neg S))
    have hrl := rowsOf_length (neg S)
    clear hg hcn
    go_enter Tryd.func9, Tryd.ntmps9
    go_wp2_with fail
    refine (bytes_any S _).mono ?_
    rintro e w1 ⟨v, rfl, ⟨bo, bc, rfl, -⟩, hb1⟩
    have hB1 := btr hB0 hb1
    have hS1 := hS0.below hb1 hS0.lt
    obtain ⟨s0, s1, s2, s3⟩ := hS1.cells
    go_wp2_with fail
    refine (by3_any S S _).mono ?_
    rintro e w2 ⟨rfl, hb2⟩
    have hB2 := btr hB1 hb2
    have hS2 := hS1.below hb2 hS1.lt
    have q0 := hS2.frozen 0
    have q1 := hS2.frozen 1
    have q2 := hS2.frozen 2
    have q3 := hS2.frozen 3
    obtain ⟨r0, r1, r2, r3⟩ := hS2.cells
    have hB2b : Below w.heap.size w ((((w2.setCell ⟨w.heap.size, 0, none⟩ (.int .u64 ((wd (neg S) 0 : Nat) : Int))).setCell ⟨w.heap.size, 1, none⟩ (.int .u64 ((wd (neg S) 1 : Nat) : Int))).setCell ⟨w.heap.size, 2, none⟩ (.int .u64 ((wd (neg S) 2 : Nat) : Int))).setCell ⟨w.heap.size, 3, none⟩ (.int .u64 ((wd (neg S) 3 : Nat) : Int))) :=
      (((hB2.setCell (p := ⟨w.heap.size, 0, none⟩) (Nat.le_refl _) _).setCell (p := ⟨w.heap.size, 1, none⟩) (Nat.le_refl _) _).setCell (p := ⟨w.heap.size, 2, none⟩) (Nat.le_refl _) _).setCell (p := ⟨w.heap.size, 3, none⟩) (Nat.le_refl _) _
    have hS2b := ((((hS2.set 0 (.int .u64 ((wd (neg S) 0 : Nat) : Int))).set 1 (.int .u64 ((wd (neg S) 1 : Nat) : Int))).set 2 (.int .u64 ((wd (neg S) 2 : Nat) : Int))).set 3 (.int .u64 ((wd (neg S) 3 : Nat) : Int)))
    change Blk _ w.heap.size 24 (cells4 (neg S)) at hS2b
    clear s0 s1 s2 s3 hb1 hb2 hS1
    go_wp2_with fail
    refine (refrows_any (neg S) _).mono ?_
    rintro e w3 ⟨v, rfl, hps, hb3⟩
    have hB3 := btr hB2b hb3
    clear r0 r1 r2 r3 q0 q1 q2 q3 hb3 hS2 hS2b hB2b hB2 hB1
    obtain ⟨ro, rc, rfl, HPS⟩ := hps.hid
    clear hps
    generalize rowsOf (neg S) = l at *
    obtain ⟨n, hn⟩ : ∃ n, l.length = n := ⟨_, rfl⟩
    have HN := Lib.hid hn
    rw [hn] at HPS hrl ⊢
    clear hn
    go_wp2_with fail
    go_loopw [3, 5] (fun o i wr => ∃ k : Nat, k ≤ n ∧ i = .int .i64 k ∧ o = .string (mkS ([91, 94] ++ rowsW (l.take k))) ∧ Below w3.heap.size w3 wr)
      (fun _ i _ => n - (intOf i).toNat)
    case atStart => exact ⟨0, Nat.zero_le _, rfl, rfl, Below.refl _ _⟩
    case round =>
      obtain ⟨k, hk, rfl, rfl, hW⟩ := hrel
      by_cases hlt : k < n
      · obtain ⟨g, rfl, hc⟩ := HPS.out (by omega)
        have hkl : k < l.length := by rw [HN.out]; exact hlt
        have hrb := HRB.out (l.getD k (0, 0)) (by rw [List.getD, List.getElem?_eq_getElem hkl]; exact List.getElem_mem _)
        have HSTEP := Lib.hid (rowsW_take l k hkl)
        have HC := Lib.hid (fun W h => hc k hlt W h)
        have hlen := rowsW_len (l.take k)
        rw [List.length_take] at hlen
        obtain ⟨r, hr⟩ : ∃ r, l.getD k (0, 0) = r := ⟨_, rfl⟩
        rw [hr] at hrb HSTEP HC
        obtain ⟨c0, c1⟩ := HC.out wr hW
        rw [← ofNat_toNat8 (n := r.1) (by omega)] at c0
        rw [← ofNat_toNat8 (n := r.2) (by omega)] at c1
        have HA := Lib.hid (refbyte_any (UInt8.ofNat r.1))
        have HB := Lib.hid (refbyte_any (UInt8.ofNat r.2))
        have hy1 : (mkS (byteL (UInt8.ofNat r.1))).size ≤ 4 := by rw [size_mkS]; exact byteL_len _
        have hy2 : (mkS (byteL (UInt8.ofNat r.2))).size ≤ 4 := by rw [size_mkS]; exact byteL_len _
        have ho : (mkS ([91, 94] ++ rowsW (l.take k))).size ≤ 10000 := by rw [size_mkS, List.length_append]; simp; omega
        have hlti : (k : Int) < (n : Int) := by omega
        have hk0 : (0 : Int) ≤ (k : Int) := by omega
        have H1 := Lib.hid (fun e : r.2 = r.1 => show mkS ([91, 94] ++ rowsW (l.take k)) ++ mkS (byteL (UInt8.ofNat r.1)) = mkS ([91, 94] ++ rowsW (l.take (k + 1))) by
          rw [mkS_append, HSTEP.out, rowW_one e, List.append_assoc])
        have H2 := Lib.hid (fun e : r.2 ≠ r.1 => show mkS ([91, 94] ++ rowsW (l.take k)) ++ mkS (byteL (UInt8.ofNat r.1)) ++ ByteArray.mk #[45] ++ mkS (byteL (UInt8.ofNat r.2)) = mkS ([91, 94] ++ rowsW (l.take (k + 1))) by
          rw [mkS_append, show ByteArray.mk #[45] = mkS [45] from rfl, mkS_append, mkS_append, HSTEP.out, rowW_two e]; simp)
        have HEQ := Lib.hid (show (((UInt8.ofNat r.2).toNat : Nat) : Int) = (r.2 : Int) ∧ (((UInt8.ofNat r.1).toNat : Nat) : Int) = (r.1 : Int) from ⟨ofNat_toNat8 (by omega), ofNat_toNat8 (by omega)⟩)
        have HC1 := Lib.hid (fun W h => (show World.cell? W ⟨g, k * 2, none⟩ = some (.int .u8 (((UInt8.ofNat r.1).toNat : Nat) : Int)) ∧ World.cell? W ⟨g, k * 2 + 1, none⟩ = some (.int .u8 (((UInt8.ofNat r.2).toNat : Nat) : Int)) by
          obtain ⟨x, y⟩ := HC.out W h
          rw [HEQ.out.1, HEQ.out.2]
          exact ⟨x, y⟩))
        clear hc HC hr hkl hlen
        generalize mkS ([91, 94] ++ rowsW (l.take k)) = o at *
        generalize mkS (byteL (UInt8.ofNat r.1)) = y1 at *
        generalize mkS (byteL (UInt8.ofNat r.2)) = y2 at *
        by_cases he : r.2 = r.1
        · have hd : ((((UInt8.ofNat r.2).toNat : Nat) : Int) != (((UInt8.ofNat r.1).toNat : Nat) : Int)) = false := by rw [he]; simp
          have HO := Lib.hid (H1.out he)
          clear he H1 H2
          generalize (UInt8.ofNat r.1).toNat = m1 at *
          generalize (UInt8.ofNat r.2).toNat = m2 at *
          go_wp2_with fail
          refine (HA.out wr).mono ?_
          rintro e w4 ⟨rfl, hb4⟩
          have hW4 := btr hW hb4
          obtain ⟨d0, d1⟩ := HC1.out w4 hW4
          clear c0 c1 hb4
          go_wp2_with fail
          go_quiet (fail)
          go_wp2
          go_roundw
          case rel => exact ⟨k + 1, by omega, by go_num, by rw [← HO.out], below_drewN hW4 _⟩
          case measure => simp [intOf]; omega
        · have hne : ¬ (((UInt8.ofNat r.2).toNat : Nat) : Int) = (((UInt8.ofNat r.1).toNat : Nat) : Int) := fun e => he (by have := HEQ.out; omega)
          have hd : ((((UInt8.ofNat r.2).toNat : Nat) : Int) != (((UInt8.ofNat r.1).toNat : Nat) : Int)) = true := by simpa using hne
          have HO := Lib.hid (H2.out he)
          clear he H1 H2 hne
          generalize (UInt8.ofNat r.1).toNat = m1 at *
          generalize (UInt8.ofNat r.2).toNat = m2 at *
          go_wp2_with fail
          refine (HA.out wr).mono ?_
          rintro e w4 ⟨rfl, hb4⟩
          have hW4 := btr hW hb4
          obtain ⟨d0, d1⟩ := HC1.out w4 hW4
          clear c0 c1 hb4
          go_wp2_with fail
          go_quiet (fail)
          have hW5 := below_drewN hW4 nq
          obtain ⟨f0, f1⟩ := HC1.out _ hW5
          clear d0 d1
          generalize w4.drewN nq = w5 at *
          go_wp2_with fail
          refine (HB.out w5).mono ?_
          rintro e w6 ⟨rfl, hb6⟩
          have hW6 := btr hW5 hb6
          go_wp2
          go_roundw
          case rel => exact ⟨k + 1, by omega, by go_num, by rw [← HO.out], hW6⟩
          case measure => simp [intOf]; omega
      · obtain rfl : k = n := by omega
        have ht : l.take k = l := by rw [← HN.out, List.take_length]
        have hlen := rowsW_len l
        rw [HN.out] at hlen
        rw [ht]
        have ho : (mkS ([91, 94] ++ rowsW l)).size ≤ 10000 := by rw [size_mkS, List.length_append]; simp; omega
        have hnk : ¬ (k : Int) < (k : Int) := by omega
        generalize mkS ([91, 94] ++ rowsW l) = o at *
        clear hlen ht
        go_wp2
        go_ret
        exact ⟨by rw [HST.out]; exact congrArg (fun z => Ending.returned (Value.string z)) HFI.out, btr hB3 hW⟩
  · have hgi : ¬ (128 : Int) < ((bytesTo S 256).length : Int) := by omega
    have HFI := Lib.hid (refset_tail [91] (S))
    have HST := Lib.hid (show setW S = 91 :: (rowsW (rowsOf S) ++ [93]) from if_neg hg)
    have HRB := Lib.hid (rows_bound (S))
    have hrl := rowsOf_length (S)
    clear hg hcn
    go_enter Tryd.func9, Tryd.ntmps9
    go_wp2_with fail
    refine (bytes_any S _).mono ?_
    rintro e w1 ⟨v, rfl, ⟨bo, bc, rfl, -⟩, hb1⟩
    have hB1 := btr hB0 hb1
    have hS1 := hS0.below hb1 hS0.lt
    obtain ⟨s0, s1, s2, s3⟩ := hS1.cells
    go_wp2_with fail
    refine (refrows_any S _).mono ?_
    rintro e w3 ⟨v, rfl, hps, hb3⟩
    have hB3 := btr hB1 hb3
    clear s0 s1 s2 s3 hb1 hb3 hS1 hB1
    obtain ⟨ro, rc, rfl, HPS⟩ := hps.hid
    clear hps
    generalize rowsOf (S) = l at *
    obtain ⟨n, hn⟩ : ∃ n, l.length = n := ⟨_, rfl⟩
    have HN := Lib.hid hn
    rw [hn] at HPS hrl ⊢
    clear hn
    go_wp2_with fail
    go_loopw [3, 5] (fun o i wr => ∃ k : Nat, k ≤ n ∧ i = .int .i64 k ∧ o = .string (mkS ([91] ++ rowsW (l.take k))) ∧ Below w3.heap.size w3 wr)
      (fun _ i _ => n - (intOf i).toNat)
    case atStart => exact ⟨0, Nat.zero_le _, rfl, rfl, Below.refl _ _⟩
    case round =>
      obtain ⟨k, hk, rfl, rfl, hW⟩ := hrel
      by_cases hlt : k < n
      · obtain ⟨g, rfl, hc⟩ := HPS.out (by omega)
        have hkl : k < l.length := by rw [HN.out]; exact hlt
        have hrb := HRB.out (l.getD k (0, 0)) (by rw [List.getD, List.getElem?_eq_getElem hkl]; exact List.getElem_mem _)
        have HSTEP := Lib.hid (rowsW_take l k hkl)
        have HC := Lib.hid (fun W h => hc k hlt W h)
        have hlen := rowsW_len (l.take k)
        rw [List.length_take] at hlen
        obtain ⟨r, hr⟩ : ∃ r, l.getD k (0, 0) = r := ⟨_, rfl⟩
        rw [hr] at hrb HSTEP HC
        obtain ⟨c0, c1⟩ := HC.out wr hW
        rw [← ofNat_toNat8 (n := r.1) (by omega)] at c0
        rw [← ofNat_toNat8 (n := r.2) (by omega)] at c1
        have HA := Lib.hid (refbyte_any (UInt8.ofNat r.1))
        have HB := Lib.hid (refbyte_any (UInt8.ofNat r.2))
        have hy1 : (mkS (byteL (UInt8.ofNat r.1))).size ≤ 4 := by rw [size_mkS]; exact byteL_len _
        have hy2 : (mkS (byteL (UInt8.ofNat r.2))).size ≤ 4 := by rw [size_mkS]; exact byteL_len _
        have ho : (mkS ([91] ++ rowsW (l.take k))).size ≤ 10000 := by rw [size_mkS, List.length_append]; simp; omega
        have hlti : (k : Int) < (n : Int) := by omega
        have hk0 : (0 : Int) ≤ (k : Int) := by omega
        have H1 := Lib.hid (fun e : r.2 = r.1 => show mkS ([91] ++ rowsW (l.take k)) ++ mkS (byteL (UInt8.ofNat r.1)) = mkS ([91] ++ rowsW (l.take (k + 1))) by
          rw [mkS_append, HSTEP.out, rowW_one e, List.append_assoc])
        have H2 := Lib.hid (fun e : r.2 ≠ r.1 => show mkS ([91] ++ rowsW (l.take k)) ++ mkS (byteL (UInt8.ofNat r.1)) ++ ByteArray.mk #[45] ++ mkS (byteL (UInt8.ofNat r.2)) = mkS ([91] ++ rowsW (l.take (k + 1))) by
          rw [mkS_append, show ByteArray.mk #[45] = mkS [45] from rfl, mkS_append, mkS_append, HSTEP.out, rowW_two e]; simp)
        have HEQ := Lib.hid (show (((UInt8.ofNat r.2).toNat : Nat) : Int) = (r.2 : Int) ∧ (((UInt8.ofNat r.1).toNat : Nat) : Int) = (r.1 : Int) from ⟨ofNat_toNat8 (by omega), ofNat_toNat8 (by omega)⟩)
        have HC1 := Lib.hid (fun W h => (show World.cell? W ⟨g, k * 2, none⟩ = some (.int .u8 (((UInt8.ofNat r.1).toNat : Nat) : Int)) ∧ World.cell? W ⟨g, k * 2 + 1, none⟩ = some (.int .u8 (((UInt8.ofNat r.2).toNat : Nat) : Int)) by
          obtain ⟨x, y⟩ := HC.out W h
          rw [HEQ.out.1, HEQ.out.2]
          exact ⟨x, y⟩))
        clear hc HC hr hkl hlen
        generalize mkS ([91] ++ rowsW (l.take k)) = o at *
        generalize mkS (byteL (UInt8.ofNat r.1)) = y1 at *
        generalize mkS (byteL (UInt8.ofNat r.2)) = y2 at *
        by_cases he : r.2 = r.1
        · have hd : ((((UInt8.ofNat r.2).toNat : Nat) : Int) != (((UInt8.ofNat r.1).toNat : Nat) : Int)) = false := by rw [he]; simp
          have HO := Lib.hid (H1.out he)
          clear he H1 H2
          generalize (UInt8.ofNat r.1).toNat = m1 at *
          generalize (UInt8.ofNat r.2).toNat = m2 at *
          go_wp2_with fail
          refine (HA.out wr).mono ?_
          rintro e w4 ⟨rfl, hb4⟩
          have hW4 := btr hW hb4
          obtain ⟨d0, d1⟩ := HC1.out w4 hW4
          clear c0 c1 hb4
          go_wp2_with fail
          go_quiet (fail)
          go_wp2
          go_roundw
          case rel => exact ⟨k + 1, by omega, by go_num, by rw [← HO.out], below_drewN hW4 _⟩
          case measure => simp [intOf]; omega
        · have hne : ¬ (((UInt8.ofNat r.2).toNat : Nat) : Int) = (((UInt8.ofNat r.1).toNat : Nat) : Int) := fun e => he (by have := HEQ.out; omega)
          have hd : ((((UInt8.ofNat r.2).toNat : Nat) : Int) != (((UInt8.ofNat r.1).toNat : Nat) : Int)) = true := by simpa using hne
          have HO := Lib.hid (H2.out he)
          clear he H1 H2 hne
          generalize (UInt8.ofNat r.1).toNat = m1 at *
          generalize (UInt8.ofNat r.2).toNat = m2 at *
          go_wp2_with fail
          refine (HA.out wr).mono ?_
          rintro e w4 ⟨rfl, hb4⟩
          have hW4 := btr hW hb4
          obtain ⟨d0, d1⟩ := HC1.out w4 hW4
          clear c0 c1 hb4
          go_wp2_with fail
          go_quiet (fail)
          have hW5 := below_drewN hW4 nq
          obtain ⟨f0, f1⟩ := HC1.out _ hW5
          clear d0 d1
          generalize w4.drewN nq = w5 at *
          go_wp2_with fail
          refine (HB.out w5).mono ?_
          rintro e w6 ⟨rfl, hb6⟩
          have hW6 := btr hW5 hb6
          go_wp2
          go_roundw
          case rel => exact ⟨k + 1, by omega, by go_num, by rw [← HO.out], hW6⟩
          case measure => simp [intOf]; omega
      · obtain rfl : k = n := by omega
        have ht : l.take k = l := by rw [← HN.out, List.take_length]
        have hlen := rowsW_len l
        rw [HN.out] at hlen
        rw [ht]
        have ho : (mkS ([91] ++ rowsW l)).size ≤ 10000 := by rw [size_mkS, List.length_append]; simp; omega
        have hnk : ¬ (k : Int) < (k : Int) := by omega
        generalize mkS ([91] ++ rowsW l) = o at *
        clear hlen ht
        go_wp2
        go_ret
        exact ⟨by rw [HST.out]; exact congrArg (fun z => Ending.returned (Value.string z)) HFI.out, btr hB3 hW⟩
end Go.Proofs.YtgckhkdjjmeboaaDoor
