/-
  The walk of the statement InternFull: of any number it returns true; nothing that was there before the call has changed. Conditions: none.
-/
import Derived.Test.YtbnnfhpphelmfaaInternFullM
namespace Go.Proofs.Ytbnnfhpphelmfaa
open Go.RowKit

set_option maxRecDepth 100000 in
set_option maxHeartbeats 2000000 in
theorem internFull_main (n : Nat) (hn : n ≤ 100) (w : World) :
    Calls Try.prog 7 #[.int .i64 (n : Int)] w fun e w' => e = .returned (.bool true) ∧ Below w.heap.size w w' := by
  have g1 : ¬ (n : Int) < 0 := by omega
  have g2 : ¬ (100 : Int) < (n : Int) := by omega
  go_enter Try.func7, Try.ntmps7
  go_wp2_with fail
  refine (new_any w).mono ?_
  rintro e w1 ⟨a, F0, rfl, hT1, hb1, hF0⟩
  have HT := Lib.hid hT1
  have HB := Lib.hid hb1
  have HF := Lib.hid hF0
  clear hT1 hb1 hF0
  go_wp2_with fail
  go_loopw [4] (fun i wr => ∃ (k : Nat) (F : Nat → Prop), k ≤ 4096 ∧ i = .int .i64 k ∧ Tb wr a (rowsF k) F ∧ (∀ j, F j → w.heap.size ≤ j) ∧ Below w.heap.size w wr)
    (fun i _ => 4096 - (intOf i).toNat)
  case atStart => exact ⟨0, F0, Nat.zero_le _, rfl, HT.out, HF.out, HB.out⟩
  case round =>
    obtain ⟨k, F, hk, rfl, hT, hF, hB⟩ := hrel
    clear HT HB HF
    by_cases hlt : k < 4096
    · have hlti : (k : Int) < 4096 := by omega
      have hat := two_nums wr (k : Int) (-1)
      have hTa := hT.below (bal (Below.refl wr.heap.size wr) (.cells #[.int .i64 (k : Int), .int .i64 (-1)] 3))
      have hBa := bal hB (.cells #[.int .i64 (k : Int), .int .i64 (-1)] 3)
      obtain ⟨p1, p2, p3, p4⟩ := put_next k hlt
      have hc := put_any a (rowsF k) F _ 2 2 [(k : Int), -1] rfl (by decide) (by intro x hx; simp at hx; omega) (by rw [rowsF_len]; exact hk) _ hTa hat
      rw [(srt_two (k : Int) (by omega)).1, p1, p2, p3, p4] at hc
      have HC := Lib.hid hc
      have HBA := Lib.hid hBa
      have HFK := Lib.hid hF
      clear hc hBa hat hTa hT hF hB p1 p2 p3 p4
      go_wp2_with fail
      refine HC.out.mono ?_
      rintro e w2 ⟨rfl, F2, hT2, hu2, hF2⟩
      have hB2 : Below w.heap.size w w2 := HBA.out.trans (hu2.below HBA.out.size HFK.out)
      have hF2' : ∀ j, F2 j → w.heap.size ≤ j := fun j hj => by
        rcases hF2 j hj with h | h
        · exact HFK.out j h
        · exact Nat.le_trans HBA.out.size h
      clear hu2 hF2
      go_wp2_with fail
      go_roundw
      case rel => exact ⟨k + 1, F2, by omega, by go_num, hT2, hF2', hB2⟩
      case measure => simp [intOf]; omega
    · have hnlt : ¬ (k : Int) < 4096 := by omega
      have hkk : 4096 ≤ k := by omega
      have hat := one_num wr (n : Int)
      have hTa := hT.below (bal (Below.refl wr.heap.size wr) (.cells #[.int .i64 (n : Int)] 3))
      have hBa := bal hB (.cells #[.int .i64 (n : Int)] 3)
      have hc := put_any a (rowsF k) F _ 1 1 [(n : Int)] rfl (by decide) (by intro x hx; simp at hx; omega) (by rw [rowsF_len]; exact hk) _ hTa hat
      rw [srt_one, (put_over k hkk (n : Int)).1, (put_over k hkk (n : Int)).2] at hc
      have HC := Lib.hid hc
      have HBA := Lib.hid hBa
      have HFK := Lib.hid hF
      clear hc hBa hat hTa hT hF hB
      go_wp2_with fail
      refine HC.out.mono ?_
      rintro e w2 ⟨rfl, F2, hT2, hu2, hF2⟩
      have hB2 : Below w.heap.size w w2 := HBA.out.trans (hu2.below HBA.out.size HFK.out)
      have hF2' : ∀ j, F2 j → w.heap.size ≤ j := fun j hj => by
        rcases hF2 j hj with h | h
        · exact HFK.out j h
        · exact Nat.le_trans HBA.out.size h
      have hat2 := two_nums w2 (-1) (n : Int)
      have hTb := hT2.below (bal (Below.refl w2.heap.size w2) (.cells #[.int .i64 (-1), .int .i64 (n : Int)] 3))
      have hBb := bal hB2 (.cells #[.int .i64 (-1), .int .i64 (n : Int)] 3)
      obtain ⟨p1, p2, p3, p4⟩ := put_again k n (by omega)
      have hc := put_any a (rowsF k) F2 _ 2 2 [-1, (n : Int)] rfl (by decide) (by intro x hx; simp at hx; omega) (by rw [rowsF_len]; exact hk) _ hTb hat2
      rw [(srt_two (n : Int) (by omega)).2, p1, p2, p3, p4] at hc
      have HC2 := Lib.hid hc
      have HBB := Lib.hid hBb
      have HFK2 := Lib.hid hF2'
      clear HC HBA HFK hc hBb hat2 hTb hT2 hu2 hF2 hF2' hB2 p1 p2 p3 p4
      go_wp2_with fail
      refine HC2.out.mono ?_
      rintro e w3 ⟨rfl, F3, hT3, hu3, hF3⟩
      have hB3 : Below w.heap.size w w3 := HBB.out.trans (hu3.below HBB.out.size HFK2.out)
      clear HC2 HBB HFK2 hu3 hF3
      go_wp2_with fail
      refine (awake_intern w3).mono ?_
      rintro e w4 ⟨rfl, hb4⟩
      have hT4 := hT3.below hb4
      have hB4 := btr hB3 hb4
      have hc := size_any a (rowsF k) F3 (by rw [rowsF_len]; exact hk) w4 hT4
      rw [rowsF_len, show ((k : Nat) : Int) = 4096 by omega] at hc
      have HC := Lib.hid hc
      have HB4 := Lib.hid hB4
      clear hc hT3 hT4 hb4 hB3 hB4
      have z1 : ((n : Int) == (n : Int)) = true := by simp
      go_wp2_with fail
      refine HC.out.mono ?_
      rintro e w5 ⟨rfl, hb5⟩
      have hB5 := btr HB4.out hb5
      go_wp2
      go_ret
      exact ⟨rfl, hB5⟩

set_option maxHeartbeats 1000000 in
theorem internFull_walk (x : Int) (w : World) :
    Calls Try.prog 7 #[.int .i64 x] w fun e w' => e = .returned (.bool true) ∧ Below w.heap.size w w' := by
  by_cases c1 : x < 0
  · go_enter Try.func7, Try.ntmps7
    go_wp2
    go_ret
    exact ⟨rfl, Below.refl _ _⟩
  by_cases c2 : (100 : Int) < x
  · go_enter Try.func7, Try.ntmps7
    go_wp2
    go_ret
    exact ⟨rfl, Below.refl _ _⟩
  obtain ⟨n, rfl⟩ := Int.eq_ofNat_of_zero_le (show (0 : Int) ≤ x by omega)
  exact internFull_main n (by omega) w
end Go.Proofs.Ytbnnfhpphelmfaa
