/-
  The walks of the reference's Parts and Class, and of package part's Parts where there are too many sets. Conditions: the sets lie in memory as a slice, fewer than 2^40 of them.
-/
import Derived.Test.YtjfjfbefhdabeaaDoorPartRefS
import Derived.Test.YtjfjfbefhdabeaaDoorPartRefC
import Derived.Test.YtjfjfbefhdabeaaDoorPartRight
import Derived.Test.YtjfjfbefhdabeaaDoorPartBackM
import Derived.Deep.Onto
namespace Go.Proofs.YtjfjfbefhdabeaaDoor
open Go.RowKit

theorem parts_long (ao : Option Addr) (len cap : Nat) (hlen : 1024 < len) (w : World) :
    Calls Tryd.prog 8 #[.slice ao len cap] w fun e w' => e = .returned (.tuple #[.slice none 0 0, .int .i64 2]) ∧ Below w.heap.size w w' := by
  have h1 : (1024 : Int) < (len : Int) := by omega
  go_enter Tryd.func8, Tryd.ntmps8
  go_wp2
  go_ret2
  exact ⟨rfl, Below.refl _ _⟩
theorem refparts_long (ao : Option Addr) (len cap : Nat) (hlen : 1024 < len) (w : World) :
    Calls Tryd.prog 9 #[.slice ao len cap] w fun e w' => e = .returned (.tuple #[.slice none 0 0, .int .i64 2]) ∧ Below w.heap.size w w' := by
  have h1 : (1024 : Int) < (len : Int) := by omega
  go_enter Tryd.func9, Tryd.ntmps9
  go_wp2
  go_ret2
  exact ⟨rfl, Below.refl _ _⟩

theorem refsets_any (ao : Option Addr) (len cap : Nat) (xs : List Int) (hl : xs.length = len) (hlen : len ≤ 1099511627776) (w : World) (hS : IAt w ao xs w.heap.size) (hok : ClassOk xs) :
    Calls Tryd.prog 16 #[.slice ao len cap] w fun e w' => ∃ v, e = .returned (.tuple #[v, .int .i64 0]) ∧ w'.ownsRow w.heap.size 35 4 v (prts (natOf xs) 256).length (setCells (prts (natOf xs) 256)) ∧ Below w.heap.size w w' := by
  refine (refsets_all ao len cap xs hl hlen w hS).mono ?_
  rintro e w' ⟨v, rfl, h | h, hb⟩
  · obtain ⟨_, u, rfl, h1⟩ := h
    exact ⟨u, rfl, h1, hb⟩
  · exact absurd hok h.1
theorem refsets_bad (ao : Option Addr) (len cap : Nat) (xs : List Int) (hl : xs.length = len) (hlen : len ≤ 1099511627776) (w : World) (hS : IAt w ao xs w.heap.size) (hok : ¬ ClassOk xs) :
    Calls Tryd.prog 16 #[.slice ao len cap] w fun e w' => e = .returned (.tuple #[.slice none 0 0, .int .i64 1]) ∧ Below w.heap.size w w' := by
  refine (refsets_all ao len cap xs hl hlen w hS).mono ?_
  rintro e w' ⟨v, rfl, h | h, hb⟩
  · exact absurd h.1 hok
  · exact ⟨by rw [h.2], hb⟩

set_option maxRecDepth 100000 in
theorem refparts_any (ao : Option Addr) (len cap : Nat) (L : List (Nat → Bool)) (hl : L.length = len) (hlen : len ≤ 1024) (w : World) (hS : SAt w ao L w.heap.size) :
    Calls Tryd.prog 9 #[.slice ao len cap] w fun e w' => ∃ v, e = .returned (.tuple #[v, .int .i64 0]) ∧ w'.ownsRow w.heap.size 35 4 v (parts L).length (setCells (parts L)) ∧ Below w.heap.size w w' := by
  have HL := Lib.hid hl
  have HS := Lib.hid hS
  have h1 : ¬ (1024 : Int) < (len : Int) := by omega
  clear hl hS
  go_enter Tryd.func9, Tryd.ntmps9
  go_wp2_with fail
  refine (refclasses_any ao len cap L HL.out (by omega) w HS.out).mono ?_
  rintro e w1 ⟨rfl, hM, hb1⟩
  have hI := IAt.of_blk hM
  have hok := ints_ok (cls_rgs L 256)
  go_wp2_with fail
  refine (refsets_any _ 256 256 (ints (cls L)) (ints_length _) (by decide) w1 hI hok).mono ?_
  rw [ints_prts]
  rintro e w2 ⟨v, rfl, hown, hb2⟩
  have HO := Lib.hid hown
  have hB2 := btr hb1 hb2
  have hsz := hb1.size
  clear hM hI hok hown hb1 hb2
  go_wp2
  go_ret2
  exact ⟨v, rfl, HO.out.mono hsz, hB2⟩

theorem refclass_bad (ao : Option Addr) (len cap : Nat) (P : List (Nat → Bool)) (hl : P.length = len) (hlen : len ≤ 1099511627776) (w : World) (hS : SAt w ao P w.heap.size) (hp : ¬ IsPart P) :
    Calls Tryd.prog 11 #[.slice ao len cap] w fun e w' => e = .returned (.tuple #[.slice none 0 0, .int .i64 1]) ∧ Below w.heap.size w w' := by
  have HL := Lib.hid hl
  have HS := Lib.hid hS
  have hf := partB_f hp
  clear hl hS hp
  go_enter Tryd.func11, Tryd.ntmps11
  go_wp2_with fail
  refine (right_any ao len cap P HL.out hlen w HS.out).mono ?_
  rw [hf]
  rintro e w1 ⟨rfl, hb1⟩
  go_wp2
  go_ret2
  exact ⟨rfl, hb1⟩
theorem refclass_any (ao : Option Addr) (len cap : Nat) (P : List (Nat → Bool)) (hl : P.length = len) (hlen : len ≤ 1099511627776) (w : World) (hS : SAt w ao P w.heap.size) (hp : IsPart P) :
    Calls Tryd.prog 11 #[.slice ao len cap] w fun e w' => ∃ bo, e = .returned (.tuple #[.slice bo 256 256, .int .i64 0]) ∧ IAt w' bo (ints (fi P)) w'.heap.size ∧ Below w.heap.size w w' := by
  have HL := Lib.hid hl
  have HS := Lib.hid hS
  have hf := (partB_iff P).2 hp
  have he := Lib.hid (ints_ext fun b hb => Pt.cls hp b hb)
  clear hl hS hp
  go_enter Tryd.func11, Tryd.ntmps11
  go_wp2_with fail
  refine (right_any ao len cap P HL.out hlen w HS.out).mono ?_
  rw [hf]
  rintro e w1 ⟨rfl, hb1⟩
  have hS1 := (HS.out.below hb1 (Nat.le_refl _)).mono hb1.size
  go_wp2_with fail
  refine (refclasses_any ao len cap P HL.out hlen w1 hS1).mono ?_
  rintro e w2 ⟨rfl, hM, hb2⟩
  have hI := IAt.of_blk hM
  rw [he.out] at hI
  have HI := Lib.hid hI
  have hB2 := btr hb1 hb2
  clear hM hI hS1 hb1 hb2
  go_wp2
  go_ret2
  exact ⟨_, rfl, HI.out, hB2⟩
end Go.Proofs.YtjfjfbefhdabeaaDoor
