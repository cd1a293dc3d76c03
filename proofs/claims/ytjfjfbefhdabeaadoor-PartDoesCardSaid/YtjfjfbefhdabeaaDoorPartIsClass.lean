/-
  The walk of package part's isClass: whether the numbers are 256, none below 0, each at most one more than the greatest one ahead; nothing has changed. Conditions: the numbers lie in memory as a slice.
-/
import Derived.Test.YtjfjfbefhdabeaaDoorPartKit
import Derived.Deep.QuietTactic
import Derived.BigQuiet
namespace Go.Proofs.YtjfjfbefhdabeaaDoor
open Go.RowKit

/-- The numbers of a row, from 0 on. -/
def natOf (xs : List Int) : Nat → Nat := fun b => (xs.getD b 0).toNat
/-- The numbers are those of classes. -/
structure ClassOk (xs : List Int) : Prop where
  len : xs.length = 256
  pos : ∀ b, b < 256 → 0 ≤ xs.getD b 0
  rgs : rgs (natOf xs) 256
theorem ClassOk.cast {xs : List Int} (h : ClassOk xs) (b : Nat) (hb : b < 256) : ((natOf xs b : Nat) : Int) = xs.getD b 0 := Int.toNat_of_nonneg (h.pos b hb)

open Classical in
noncomputable def classB (xs : List Int) : Bool := decide (ClassOk xs)
theorem classB_iff (xs : List Int) : classB xs = true ↔ ClassOk xs := by simp [classB]
theorem classB_f {xs : List Int} (h : ¬ ClassOk xs) : classB xs = false := by simp [classB, h]
theorem ret_bool {a b : Bool} (h : a = b) : Ending.returned (.bool a) = .returned (.bool b) := by rw [h]

set_option maxRecDepth 100000 in
set_option maxHeartbeats 1000000 in
theorem isClass_any (ao : Option Addr) (len cap : Nat) (xs : List Int) (hl : xs.length = len) (w : World) (hS : IAt w ao xs w.heap.size) :
    Calls Tryd.prog 27 #[.slice ao len cap] w fun e w' => e = .returned (.bool (classB xs)) ∧ Below w.heap.size w w' := by
  have HL := Lib.hid hl
  have HS := Lib.hid hS
  clear hl hS
  by_cases hlen : len = 256
  · subst hlen
    go_enter Tryd.func27, Tryd.ntmps27
    go_wp2
    go_loopw [3, 11] (fun u i wr => ∃ k : Nat, k ≤ 256 ∧ i = .int .i64 k ∧ u = .int .i64 ((nx (natOf xs) k : Nat) : Int) ∧ Hid ((∀ b, b < k → 0 ≤ xs.getD b 0) ∧ rgs (natOf xs) k) ∧ wr = w)
      (fun _ i _ => 256 - (intOf i).toNat)
    case atStart => exact ⟨0, by decide, rfl, rfl, Lib.hid ⟨fun b h => by omega, fun b h => by omega⟩, rfl⟩
    case round =>
      obtain ⟨k, hk, rfl, rfl, hok, rfl⟩ := hrel
      by_cases hlt : k < 256
      · obtain ⟨g, off, rfl, hg, hc⟩ := HS.out (by rw [HL.out]; decide)
        have ck := hc k (by rw [HL.out]; exact hlt)
        have hn := nx_le (natOf xs) k (fun b hb => hok.out.2 b hb)
        have hst := Lib.hid (show nx (natOf xs) (k + 1) = max (nx (natOf xs) k) ((xs.getD k 0).toNat + 1) from rfl)
        have hrg := Lib.hid (show 0 ≤ xs.getD k 0 → xs.getD k 0 ≤ ((nx (natOf xs) k : Nat) : Int) → rgs (natOf xs) (k + 1) from fun h0 h1 b hb => by
          by_cases e : b = k
          · subst e; unfold natOf at *; omega
          · exact hok.out.2 b (by omega))
        have hbad := Lib.hid (show ¬ (0 ≤ xs.getD k 0 ∧ xs.getD k 0 ≤ ((nx (natOf xs) k : Nat) : Int)) → ¬ ClassOk xs from fun hn h => hn ⟨h.pos k hlt, by
          have h1 := h.rgs k hlt
          have h2 := h.cast k hlt
          omega⟩)
        have hpos := Lib.hid (show 0 ≤ xs.getD k 0 → ∀ b, b < k + 1 → 0 ≤ xs.getD b 0 from fun h0 b hb => by
          by_cases e : b = k
          · subst e; exact h0
          · exact hok.out.1 b (by omega))
        clear hc
        generalize hx : xs.getD k 0 = x at ck hst hrg hbad hpos
        clear hx
        have hlti : (k : Int) < 256 := by omega
        generalize hnn : nx (natOf xs) k = n at *
        clear hnn
        by_cases h0 : x < 0
        · have hb := hbad.out (by omega)
          clear hst hrg hbad hpos
          have hd : decide (x < 0) = true := decide_eq_true h0
          go_wp2
          go_ret
          exact ⟨ret_bool (classB_f hb).symm, Below.refl _ _⟩
        · have hd : decide (x < 0) = false := decide_eq_false h0
          by_cases h1 : (n : Int) < x
          · have hb := hbad.out (by omega)
            clear hst hrg hbad hpos
            have hd1 : decide ((n : Int) < x) = true := decide_eq_true h1
            go_wp2
            go_ret
            exact ⟨ret_bool (classB_f hb).symm, Below.refl _ _⟩
          · have hd1 : decide ((n : Int) < x) = false := decide_eq_false h1
            have hrg' := Lib.hid (hrg.out (by omega) (by omega))
            have hpos' := Lib.hid (hpos.out (by omega))
            by_cases h2 : x = (n : Int)
            · subst h2
              have hw : IntKind.i64.wrap ((n : Int) + 1) = (n : Int) + 1 := IntWalk.i64_in _ (by omega)
              have hst' : nx (natOf xs) (k + 1) = n + 1 := by rw [hst.out]; omega
              have HST := Lib.hid hst'
              clear hst hrg hbad hpos hst'
              go_wp2
              go_roundw
              case rel => exact ⟨k + 1, by omega, by go_num, by rw [HST.out]; go_num, Lib.hid ⟨hpos'.out, hrg'.out⟩, trivial⟩
              case measure => simp [intOf]; omega
            · have hst' : nx (natOf xs) (k + 1) = n := by rw [hst.out]; omega
              have HST := Lib.hid hst'
              have h3 : (x == (n : Int)) = false := by simp; exact h2
              clear hst hrg hbad hpos hst'
              go_wp2
              go_roundw
              case rel => exact ⟨k + 1, by omega, by go_num, by rw [HST.out], Lib.hid ⟨hpos'.out, hrg'.out⟩, trivial⟩
              case measure => simp [intOf]; omega
      · obtain rfl : k = 256 := by omega
        go_wp2
        go_ret
        exact ⟨ret_bool ((classB_iff xs).2 ⟨HL.out, hok.out.1, hok.out.2⟩).symm, Below.refl _ _⟩
  · have h1 : ((len : Int) == 256) = false := by simp; omega
    have h2 : ((len : Int) != 256) = true := by simp; omega
    go_enter Tryd.func27, Tryd.ntmps27
    go_wp2
    go_ret
    exact ⟨ret_bool (classB_f fun h => absurd (HL.out.symm.trans h.len) hlen).symm, Below.refl _ _⟩
end Go.Proofs.YtjfjfbefhdabeaaDoor
