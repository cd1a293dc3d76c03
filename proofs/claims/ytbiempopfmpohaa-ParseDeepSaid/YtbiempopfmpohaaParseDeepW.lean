/-
  The walk of the statement ParseDeep: of any two numbers it returns true; nothing that was there before the call has changed. Conditions: none.
-/
import Derived.Test.YtbiempopfmpohaaParseAwake
namespace Go.Proofs.Ytbiempopfmpohaa
open Go.RowKit

theorem rep_push (j : Nat) (c : UInt8) (A : List UInt8) : A ++ List.replicate j c ++ [c] = A ++ List.replicate (j + 1) c := by rw [List.append_assoc, ← List.replicate_succ']
def opS (b k : Nat) : List UInt8 := List.replicate b 40 ++ List.replicate k 33
def shutS (b k j : Nat) : List UInt8 := (opS b k ++ [91, 97, 93]) ++ List.replicate j 41
theorem shut_deep (b k : Nat) : shutS b k b = deepS b k := by
  unfold shutS opS deepS
  simp only [List.append_assoc, List.cons_append, List.nil_append]
theorem opS_len (b k : Nat) : (opS b k).length = b + k := by simp [opS]
theorem shutS_len (b k j : Nat) : (shutS b k j).length = b + k + 3 + j := by simp [shutS, opS_len]; omega

set_option maxRecDepth 100000 in
set_option maxHeartbeats 1000000 in
theorem parseDeep_in (b k : Nat) (hb : b ≤ 100) (hk : k ≤ 100) (w : World) :
    Calls Try.prog 5 #[.int .i64 (b : Int), .int .i64 (k : Int)] w fun e w' => e = .returned (.bool true) ∧ Below w.heap.size w w' := by
  have i1 : ¬ (b : Int) < 0 := by omega
  have i2 : ¬ (100 : Int) < (b : Int) := by omega
  have i3 : ¬ (k : Int) < 0 := by omega
  have i4 : ¬ (100 : Int) < (k : Int) := by omega
  go_enter Try.func5, Try.ntmps5
  go_wp2
  go_loopw [5, 6] (fun o i wr => ∃ j : Nat, j ≤ b ∧ i = .int .i64 j ∧ o = .string (mkS (opS j 0)) ∧ Below w.heap.size w wr)
    (fun _ i _ => b - (intOf i).toNat)
  case atStart => exact ⟨0, Nat.zero_le _, rfl, rfl, Below.refl _ _⟩
  case round =>
    obtain ⟨j, hj, rfl, rfl, hB⟩ := hrel
    by_cases hlt : j < b
    · have hlti : (j : Int) < (b : Int) := by omega
      have ho : (mkS (opS j 0)).size ≤ 200 := by rw [size_mkS, opS_len]; omega
      have HS := Lib.hid (show mkS (opS j 0) ++ ByteArray.mk #[40] = mkS (opS (j + 1) 0) from bl_inj (by rw [bl_append, bl_mkS, bl_mkS]; show (List.replicate j 40 ++ []) ++ [40] = List.replicate (j + 1) 40 ++ []; rw [List.append_nil, List.append_nil, ← List.replicate_succ']))
      generalize mkS (opS j 0) = o at *
      go_wp2
      go_roundw
      case rel => exact ⟨j + 1, by omega, by go_num, by rw [← HS.out], hB⟩
      case measure => simp [intOf]; omega
    · obtain rfl : j = b := by omega
      have hnk : ¬ (j : Int) < (j : Int) := by omega
      have HB := Lib.hid hB
      clear hB
      go_wp2
      go_loopw [5, 7] (fun o i wr => ∃ m : Nat, m ≤ k ∧ i = .int .i64 m ∧ o = .string (mkS (opS j m)) ∧ Below w.heap.size w wr)
        (fun _ i _ => k - (intOf i).toNat)
      case atStart => exact ⟨0, Nat.zero_le _, rfl, rfl, HB.out⟩
      case round =>
        obtain ⟨m, hm, rfl, rfl, hB⟩ := hrel
        by_cases hlt2 : m < k
        · have hlti : (m : Int) < (k : Int) := by omega
          have ho : (mkS (opS j m)).size ≤ 300 := by rw [size_mkS, opS_len]; omega
          have HS := Lib.hid (show mkS (opS j m) ++ ByteArray.mk #[33] = mkS (opS j (m + 1)) from bl_inj (by rw [bl_append, bl_mkS, bl_mkS]; exact rep_push m 33 _))
          generalize mkS (opS j m) = o at *
          go_wp2
          go_roundw
          case rel => exact ⟨m + 1, by omega, by go_num, by rw [← HS.out], hB⟩
          case measure => simp [intOf]; omega
        · obtain rfl : m = k := by omega
          have hnm : ¬ (m : Int) < (m : Int) := by omega
          have ho : (mkS (opS j m)).size ≤ 300 := by rw [size_mkS, opS_len]; omega
          have HS := Lib.hid (show mkS (opS j m) ++ ByteArray.mk #[91, 97, 93] = mkS (shutS j m 0) from bl_inj (by rw [bl_append, bl_mkS, bl_mkS]; show _ = (opS j m ++ [91, 97, 93]) ++ []; rw [List.append_nil]; rfl))
          have HB2 := Lib.hid hB
          clear hB
          generalize mkS (opS j m) = o at *
          go_wp2
          go_loopw [5, 8] (fun o i wr => ∃ n : Nat, n ≤ j ∧ i = .int .i64 n ∧ o = .string (mkS (shutS j m n)) ∧ Below w.heap.size w wr)
            (fun _ i _ => j - (intOf i).toNat)
          case atStart => exact ⟨0, Nat.zero_le _, rfl, by rw [← HS.out], HB2.out⟩
          case round =>
            obtain ⟨n, hn, rfl, rfl, hB⟩ := hrel
            by_cases hlt3 : n < j
            · have hlti : (n : Int) < (j : Int) := by omega
              have ho : (mkS (shutS j m n)).size ≤ 400 := by rw [size_mkS, shutS_len]; omega
              have HS := Lib.hid (show mkS (shutS j m n) ++ ByteArray.mk #[41] = mkS (shutS j m (n + 1)) from bl_inj (by rw [bl_append, bl_mkS, bl_mkS]; exact rep_push n 41 _))
              generalize mkS (shutS j m n) = o at *
              go_wp2
              go_roundw
              case rel => exact ⟨n + 1, by omega, by go_num, by rw [← HS.out], hB⟩
              case measure => simp [intOf]; omega
            · obtain rfl : n = j := by omega
              have hnn : ¬ (n : Int) < (n : Int) := by omega
              have hz : (mkS (shutS n m n)).size = 2 * n + m + 3 := by rw [size_mkS, shutS_len]; omega
              have HR := Lib.hid (re_any (mkS (shutS n m n)) (by omega) wr)
              rw [bl_mkS] at HR
              have HL := Lib.hid (deepS_len n m)
              have hD := deep_says n m
              generalize mkS (shutS n m n) = o at *
              rw [shut_deep] at HR
              by_cases h32 : n + m ≤ 32
              · rw [if_pos h32] at hD
                obtain ⟨a, ha⟩ := hD
                have i5 : ¬ (32 : Int) < (n : Int) + (m : Int) := by omega
                go_wp2_with fail
                refine HR.out.mono ?_
                intro e w2 h2
                obtain ⟨ao, cap, rfl, _, hb2⟩ := ReA.ok ha h2
                rw [HL.out]
                have hB2 := bal (btr hB hb2) (.cells (rxCells a ao cap) 27)
                have hzi : ((2 * n + m + 3 : Nat) : Int) = (o.size : Int) := by rw [hz]
                rw [hzi]
                clear h2 ha HR hb2 hB
                go_wp2_with fail
                refine (awake_parse _).mono ?_
                rintro e w3 ⟨rfl, hb3⟩
                have hB3 := btr hB2 hb3
                go_wp2
                go_ret
                exact ⟨rfl, hB3⟩
              · rw [if_neg h32] at hD
                have i5 : (32 : Int) < (n : Int) + (m : Int) := by omega
                go_wp2_with fail
                refine HR.out.mono ?_
                intro e w2 h2
                obtain ⟨⟨so, sc, rfl⟩, hb2⟩ := ReA.err hD h2
                have hB2 := bal (btr hB hb2) (.cells #[.int .i64 0, .string { data := #[] }, .int .u64 0, .int .u64 0, .int .u64 0, .int .u64 0, .slice so 0 sc, .int .i64 0, .int .i64 0] 27)
                clear h2 hD HR hb2 hB
                go_wp2_with fail
                refine (awake_parse _).mono ?_
                rintro e w3 ⟨rfl, hb3⟩
                have hB3 := btr hB2 hb3
                go_wp2
                go_ret
                exact ⟨rfl, hB3⟩

theorem parseDeep_walk (b k : Int) (w : World) :
    Calls Try.prog 5 #[.int .i64 b, .int .i64 k] w fun e w' => e = .returned (.bool true) ∧ Below w.heap.size w w' := by
  by_cases h1 : b < 0
  · go_enter Try.func5, Try.ntmps5
    go_wp2
    go_ret
    exact ⟨rfl, Below.refl _ _⟩
  by_cases h2 : 100 < b
  · go_enter Try.func5, Try.ntmps5
    go_wp2
    go_ret
    exact ⟨rfl, Below.refl _ _⟩
  by_cases h3 : k < 0
  · go_enter Try.func5, Try.ntmps5
    go_wp2
    go_ret
    exact ⟨rfl, Below.refl _ _⟩
  by_cases h4 : 100 < k
  · go_enter Try.func5, Try.ntmps5
    go_wp2
    go_ret
    exact ⟨rfl, Below.refl _ _⟩
  obtain ⟨p, rfl⟩ : ∃ p : Nat, b = p := ⟨b.toNat, by omega⟩
  obtain ⟨q, rfl⟩ : ∃ q : Nat, k = q := ⟨k.toNat, by omega⟩
  exact parseDeep_in p q (by omega) (by omega) w
end Go.Proofs.Ytbiempopfmpohaa
