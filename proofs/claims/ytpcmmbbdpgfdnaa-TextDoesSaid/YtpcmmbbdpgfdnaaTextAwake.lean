/-
  The document's example, that every statement of this layer asks: it returns true; nothing that was there before the call has changed. Conditions: none.
-/
import Derived.Test.YtpcmmbbdpgfdnaaTextPkg3
import Derived.Test.YtpcmmbbdpgfdnaaTextAppend
namespace Go.Proofs.Ytpcmmbbdpgfdnaa
open Go.RowKit

theorem strsAt (W : World) (L : List (List UInt8)) : TAt (W.alloc (.cells (strCells L).toArray 9)) (some ⟨W.heap.size, 0, none⟩) L (W.alloc (.cells (strCells L).toArray 9)).heap.size := by
  intro _
  have hb := Blk.new W 9 (strCells L).toArray
  refine ⟨W.heap.size, 0, rfl, hb.lt, fun i hi => ?_⟩
  rw [Nat.zero_add, hb.cell]
  simp [List.getD, hi]

abbrev tA : ByteArray := { data := #[97, 98, 99] }
abbrev tB : ByteArray := { data := #[97, 98, 100] }
abbrev tC : ByteArray := { data := #[97, 98] }
theorem ex_lag1 : mkS ((bl tA).drop (lcpN (bl tA) (bl tB))) = { data := #[99] } := by decide +kernel
theorem ex_lag2 : mkS ((bl tB).drop (lcpN (bl tA) (bl tB))) = { data := #[100] } := by decide +kernel
theorem ex_lcp : mkS (lcpL [bl tA, bl tB, bl tC]) = tC := by decide +kernel
theorem ex_cnt : cntN (bl { data := #[97, 97, 97] }) (bl { data := #[97, 97] }) (ByteArray.size { data := #[97, 97, 97] } + 1) = 2 := by decide +kernel

set_option maxRecDepth 100000 in
set_option maxHeartbeats 1000000 in
theorem awake_text (w : World) :
    Calls Try.prog 15 #[] w fun e w' => e = .returned (.bool true) ∧ Below w.heap.size w w' := by
  have HLAG := Lib.hid (lag_any tA tB (by decide) (by decide) w)
  rw [ex_lag1, ex_lag2] at HLAG
  have HLCP := Lib.hid (fun W w => lcp_any (some ⟨W, 0, none⟩) 3 3 [bl tA, bl tB, bl tC] rfl (by decide) (by decide) (by decide +kernel) w)
  rw [ex_lcp] at HLCP
  have HCNT := Lib.hid (count_any { data := #[97, 97, 97] } { data := #[97, 97] } (by decide) (by decide))
  rw [ex_cnt] at HCNT
  go_enter Try.func15, Try.ntmps15
  go_wp2_with fail
  refine HLAG.out.mono ?_
  rintro e w1 ⟨rfl, hb1⟩
  go_wp2_with fail
  have hat := strsAt w1 [bl tA, bl tB, bl tC]
  refine (HLCP.out w1.heap.size _ hat).mono ?_
  rintro e w2 ⟨rfl, hb2⟩
  have hB2 := btr (bal hb1 _) hb2
  clear hb1 hb2 hat
  go_wp2_with fail
  refine (HCNT.out w2).mono ?_
  rintro e w3 ⟨rfl, hb3⟩
  have hB3 := btr hB2 hb3
  go_wp2
  go_ret
  exact ⟨rfl, hB3⟩
end Go.Proofs.Ytpcmmbbdpgfdnaa
