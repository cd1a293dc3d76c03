/-
  The walk of the statement TextDoes, of any arguments. Conditions: the texts lie in memory as a slice; sizes up to 2^47.
-/
import Derived.Test.YtpcmmbbdpgfdnaaTextDoesW
namespace Go.Proofs.Ytpcmmbbdpgfdnaa
open Go.RowKit

theorem textDoes_walk (ao : Option Addr) (len cap : Nat) (L : List (List UInt8)) (a b : ByteArray) (hl : L.length = len) (hm : len ≤ maxLen) (ha : a.size ≤ 140737488355328) (hb : b.size ≤ 140737488355328) (w : World) (hS : TAt w ao L w.heap.size) :
    Calls Try.prog 3 #[.slice ao len cap, .string a, .string b] w fun e w' => e = .returned (.bool true) ∧ Below w.heap.size w w' := by
  have SH := Lib.hid (short_any ao len cap L hl hm w hS)
  by_cases h1 : ShortL L
  · by_cases h2 : a.size ≤ 300
    · by_cases h3 : b.size ≤ 300
      · exact textDoes_main ao len cap L a b hl h1 h2 h3 hm w hS
      · have g2 : ¬ (300 : Int) < (a.size : Int) := by omega
        have g3 : (300 : Int) < (b.size : Int) := by omega
        rw [(shortB_iff L).2 h1] at SH
        clear hS hl h1 h2 h3
        go_enter Try.func3, Try.ntmps3
        go_wp2_with fail
        refine SH.out.mono ?_
        rintro e w1 ⟨rfl, hb1⟩
        go_wp2
        go_ret
        exact ⟨rfl, hb1⟩
    · have g2 : (300 : Int) < (a.size : Int) := by omega
      rw [(shortB_iff L).2 h1] at SH
      clear hS hl h1 h2
      go_enter Try.func3, Try.ntmps3
      go_wp2_with fail
      refine SH.out.mono ?_
      rintro e w1 ⟨rfl, hb1⟩
      go_wp2
      go_ret
      exact ⟨rfl, hb1⟩
  · rw [shortB_f h1] at SH
    clear hS hl h1
    go_enter Try.func3, Try.ntmps3
    go_wp2_with fail
    refine SH.out.mono ?_
    rintro e w1 ⟨rfl, hb1⟩
    go_wp2
    go_ret
    exact ⟨rfl, hb1⟩
end Go.Proofs.Ytpcmmbbdpgfdnaa
