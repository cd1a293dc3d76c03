/-
  parse.Check, as it has landed, finds nothing in what is right and at most 200 deep. Conditions: those that each names.
-/
import Derived.Test.YtbiempopfmpohaaPwRight
namespace Go.Proofs.Ytbiempopfmpohaa
open Go.RowKit

theorem right_all : ∀ (n : Nat) (a : Rx), SizeOf.sizeOf a < n → goodR a → ∀ (ao : Option Addr) (cap : Nat) (w : World), ReAt w w.heap.size a ao cap → Calls Try.prog 16 #[rxV a ao cap] w fun e w' => e = .returned (.bool true) ∧ Below w.heap.size w w'
  | 0, _, h, _, _, _, _, _ => absurd h (Nat.not_lt_zero _)
  | n + 1, a, hn, hg, ao, cap, w, hA => by
    rw [ReAt_eq] at hA
    obtain ⟨k1, k2, k3, hA⟩ := hA
    have HR : ∀ W, Below w.heap.size w W → Calls Try.prog 34 #[.slice ao a.parts.length cap] W fun e w' => e = .returned (.bool true) ∧ Below W.heap.size W w' := fun W hb => by
      refine arer_any a.parts ao cap W k1 k2 (fun i hi => ?_) (fun p hp ao' cap' W' hr => right_all n p (by have := Rx.part_lt hp; omega) (good_part hg hp) ao' cap' W' hr)
      rcases hA with e | ⟨g, off, rfl, hgl, hr⟩
      · rw [e] at hi; exact absurd hi (Nat.not_lt_zero _)
      · obtain ⟨po, pc, q1, q2⟩ := (RowAt_iff _ _).1 hr i hi
        exact ⟨g, off, rfl, Nat.lt_of_lt_of_le hgl hb.size, po, pc, q1.below hb hgl, q2.go hb⟩
    have HE : ∀ W so sc, Calls Try.prog 33 #[.agg #[.int .i64 0, .string { data := #[] }, .int .u64 0, .int .u64 0, .int .u64 0, .int .u64 0, .slice so 0 sc, .int .i64 0, .int .i64 0]] W fun e w' => e = .returned (.bool true) ∧ Below W.heap.size W w' := fun W so sc => empty_any so sc W
    clear hA hn
    cases a with
    | mk k t S ps lo hi =>
      have hp : (Rx.mk k t S ps lo hi).parts.length = ps.length := rfl
      rw [hp] at HR
      have z := wd_none
      have c0 : ((0 : Nat) : Int) = 0 := rfl
      have m0 : mkS [] = { data := #[] } := rfl
      obtain ⟨hk, -⟩ := hg
      rcases hk with ⟨rfl, ht, rfl, hl, rfl, rfl⟩ | ⟨rfl, rfl, hl, rfl, rfl⟩ | ⟨rfl, ht, rfl, hl, rfl, rfl⟩ | ⟨hk, rfl, rfl, hl, rfl, rfl⟩ | ⟨rfl, rfl, rfl, hl, rfl, rfl⟩ | ⟨rfl, rfl, rfl, hl, h0, h64, hh⟩
      · rw [hl] at HR
        have := right_text t ao cap w ht HE HR
        simpa only [rxV, rxCells, Rx.kind, Rx.text, Rx.set, Rx.parts, Rx.lo, Rx.hi, z, c0, m0, hl] using this
      · rw [hl] at HR
        have := right_set (wd S 0) (wd S 1) (wd S 2) (wd S 3) ao cap w HE HR
        simpa only [rxV, rxCells, Rx.kind, Rx.text, Rx.set, Rx.parts, Rx.lo, Rx.hi, m0, hl] using this
      · rw [hl] at HR
        have := right_name t ao cap w ht HE HR
        simpa only [rxV, rxCells, Rx.kind, Rx.text, Rx.set, Rx.parts, Rx.lo, Rx.hi, z, c0, m0, hl] using this
      · rcases hk with rfl | rfl | rfl
        · have := right_cat _ ao cap w hl HE HR
          simpa only [rxV, rxCells, Rx.kind, Rx.text, Rx.set, Rx.parts, Rx.lo, Rx.hi, z, c0, m0] using this
        · have := right_alt _ ao cap w hl HE HR
          simpa only [rxV, rxCells, Rx.kind, Rx.text, Rx.set, Rx.parts, Rx.lo, Rx.hi, z, c0, m0] using this
        · have := right_and _ ao cap w hl HE HR
          simpa only [rxV, rxCells, Rx.kind, Rx.text, Rx.set, Rx.parts, Rx.lo, Rx.hi, z, c0, m0] using this
      · rw [hl] at HR
        have := right_not ao cap w HE HR
        simpa only [rxV, rxCells, Rx.kind, Rx.text, Rx.set, Rx.parts, Rx.lo, Rx.hi, z, c0, m0, hl] using this
      · rw [hl] at HR
        have := right_rep lo hi ao cap w h0 hh HE HR
        simpa only [rxV, rxCells, Rx.kind, Rx.text, Rx.set, Rx.parts, Rx.lo, Rx.hi, z, c0, m0, hl] using this

set_option maxRecDepth 100000 in
set_option maxHeartbeats 2000000 in
theorem check_any (a : Rx) (ao : Option Addr) (cap : Nat) (hg : goodR a) (hd : depthR a ≤ 200) (w : World) (hA : ReAt w w.heap.size a ao cap) :
    Calls Try.prog 9 #[rxV a ao cap] w fun e w' => e = .returned (.int .i64 0) ∧ Below w.heap.size w w' := by
  have HL := Lib.hid (fun W h => low_any _ a (Nat.lt_succ_self _) ao cap 200 W hd (by decide) h)
  have HR := Lib.hid (fun W h => right_all _ a (Nat.lt_succ_self _) hg ao cap W h)
  have hV := Blk.new w 27 (rxCells a ao cap)
  have hB0 := bal0 w (.cells (rxCells a ao cap) 27)
  have hA1 := hA.go hB0
  clear hg hd hA
  go_enter Try.func9, Try.ntmps9
  go_wp2_with (first | (refine wp_get rfl _ _ rfl w.heap.size (rxCells a ao cap) _ rfl hV Try.underlying27 rfl (by rw [size_re]; rfl) ?_) | fail)
  refine (HL.out _ hA1).mono ?_
  rintro e w2 ⟨rfl, hb2⟩
  have hV2 := hV.below hb2 hV.lt
  have hA2 := hA1.go hb2
  have hB2 := btr hB0 hb2
  go_wp2_with (first | (refine wp_get rfl _ _ rfl w.heap.size (rxCells a ao cap) _ rfl hV2 Try.underlying27 rfl (by rw [size_re]; rfl) ?_) | fail)
  refine (HR.out _ hA2).mono ?_
  rintro e w3 ⟨rfl, hb3⟩
  have hB3 := btr hB2 hb3
  go_wp2
  go_ret
  exact ⟨rfl, hB3⟩
end Go.Proofs.Ytbiempopfmpohaa
