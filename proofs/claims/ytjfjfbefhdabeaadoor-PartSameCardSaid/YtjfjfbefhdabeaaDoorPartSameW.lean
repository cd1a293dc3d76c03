/-
  The walk of the statement PartSame, of any arguments: it returns true; nothing that was there before the call has changed. Conditions: the sets lie in memory as a slice; the table of math/bits as it is laid.
-/
import Derived.Test.YtjfjfbefhdabeaaDoorPartSameL
namespace Go.Proofs.YtjfjfbefhdabeaaDoor
open Go.RowKit

set_option maxRecDepth 100000 in
set_option maxHeartbeats 1000000 in
theorem partSame_walk (ao : Option Addr) (len cap : Nat) (L : List (Nat → Bool)) (x : Int) (hl : L.length = len) (hlen : len ≤ maxLen) (w : World) (hT : Tab w) (hS : SAt w ao L w.heap.size) :
    Calls Tryd.prog 7 #[.slice ao len cap, .int .i64 x] w fun e w' => e = .returned (.bool true) ∧ Below w.heap.size w w' := by
  have HS := Lib.hid hS
  have HT := Lib.hid hT
  have HL := Lib.hid hl
  unfold maxLen at hlen
  clear hS hT hl
  by_cases h1 : 30 < len
  · have g1 : (30 : Int) < (len : Int) := by omega
    go_enter Tryd.func7, Tryd.ntmps7
    go_wp2_with fail
    refine (awake_part w HT.out).mono ?_
    rintro e w1 ⟨rfl, hb1⟩
    go_wp2
    go_ret
    exact ⟨rfl, hb1⟩
  · have g1 : ¬ (30 : Int) < (len : Int) := by omega
    by_cases h2 : x < 0
    · go_enter Tryd.func7, Tryd.ntmps7
      go_wp2_with fail
      refine (awake_part w HT.out).mono ?_
      rintro e w1 ⟨rfl, hb1⟩
      go_wp2
      go_ret
      exact ⟨rfl, hb1⟩
    · by_cases h3 : (len : Int) ≤ x
      · go_enter Tryd.func7, Tryd.ntmps7
        go_wp2_with fail
        refine (awake_part w HT.out).mono ?_
        rintro e w1 ⟨rfl, hb1⟩
        go_wp2
        go_ret
        exact ⟨rfl, hb1⟩
      · obtain ⟨a, rfl⟩ : ∃ a : Nat, x = (a : Int) := ⟨x.toNat, by omega⟩
        exact partSame_main ao len cap a L HL.out (by omega) (by omega) w HT.out HS.out
end Go.Proofs.YtjfjfbefhdabeaaDoor
