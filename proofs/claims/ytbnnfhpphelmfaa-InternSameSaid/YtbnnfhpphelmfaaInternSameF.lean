/-
  The walk of the statement InternSame, of any arguments. Conditions: the rows lie in memory as a slice.
-/
import Derived.Test.YtbnnfhpphelmfaaInternSameW
namespace Go.Proofs.Ytbnnfhpphelmfaa
open Go.RowKit

set_option maxRecDepth 100000 in
theorem internSame_walk (ao : Option Addr) (la ca : Nat) (L : List (List Int)) (i k : Int) (hla : L.length = la) (hma : la ≤ maxLen) (hRL : RngL L) (w : World) (hA : RsAt w ao L w.heap.size) :
    Calls Try.prog 5 #[.slice ao la ca, .int .i64 i, .int .i64 k] w fun e w' => e = .returned (.bool true) ∧ Below w.heap.size w w' := by
  have F1 := Lib.hid (few_any ao la ca L hla hma w hA)
  by_cases f1 : FewL L
  · rw [(fewB_iff L).2 f1] at F1
    by_cases h1 : i < 0
    · clear f1 hla hA
      go_enter Try.func5, Try.ntmps5
      go_wp2_with fail
      refine F1.out.mono ?_
      rintro e w1 ⟨rfl, hb1⟩
      go_wp2_with fail
      refine (awake_intern w1).mono ?_
      rintro e w2 ⟨rfl, hb2⟩
      have hB2 := btr hb1 hb2
      go_wp2
      go_ret
      exact ⟨rfl, hB2⟩
    · by_cases h2 : (la : Int) ≤ i
      · clear f1 hla hA
        go_enter Try.func5, Try.ntmps5
        go_wp2_with fail
        refine F1.out.mono ?_
        rintro e w1 ⟨rfl, hb1⟩
        go_wp2_with fail
        refine (awake_intern w1).mono ?_
        rintro e w2 ⟨rfl, hb2⟩
        have hB2 := btr hb1 hb2
        go_wp2
        go_ret
        exact ⟨rfl, hB2⟩
      · by_cases h3 : k < 0
        · clear f1 hla hA
          go_enter Try.func5, Try.ntmps5
          go_wp2_with fail
          refine F1.out.mono ?_
          rintro e w1 ⟨rfl, hb1⟩
          go_wp2_with fail
          refine (awake_intern w1).mono ?_
          rintro e w2 ⟨rfl, hb2⟩
          have hB2 := btr hb1 hb2
          go_wp2
          go_ret
          exact ⟨rfl, hB2⟩
        · by_cases h4 : (la : Int) ≤ k
          · clear f1 hla hA
            go_enter Try.func5, Try.ntmps5
            go_wp2_with fail
            refine F1.out.mono ?_
            rintro e w1 ⟨rfl, hb1⟩
            go_wp2_with fail
            refine (awake_intern w1).mono ?_
            rintro e w2 ⟨rfl, hb2⟩
            have hB2 := btr hb1 hb2
            go_wp2
            go_ret
            exact ⟨rfl, hB2⟩
          · obtain ⟨i', rfl⟩ : ∃ n : Nat, i = (n : Int) := ⟨i.toNat, by omega⟩
            obtain ⟨k', rfl⟩ : ∃ n : Nat, k = (n : Int) := ⟨k.toNat, by omega⟩
            exact internSame_main ao la ca L i' k' hla hma f1 hRL (by omega) (by omega) w hA
  · rw [fewB_f f1] at F1
    clear f1 hla hA
    go_enter Try.func5, Try.ntmps5
    go_wp2_with fail
    refine F1.out.mono ?_
    rintro e w1 ⟨rfl, hb1⟩
    go_wp2_with fail
    refine (awake_intern w1).mono ?_
    rintro e w2 ⟨rfl, hb2⟩
    have hB2 := btr hb1 hb2
    go_wp2
    go_ret
    exact ⟨rfl, hB2⟩
end Go.Proofs.Ytbnnfhpphelmfaa
