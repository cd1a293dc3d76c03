/-
  The walks of layer 2's reference on rows of numbers: Ints (are two the same?), Own (in memory of its own). Conditions: the numbers lie in memory as slices; sizes that each names.
-/
import Derived.Test.YtbnnfhpphelmfaaInternAppend
import Derived.Test.YtbnnfhpphelmfaaMem
import Derived.Deep.QuietTactic
import Derived.BigQuiet
namespace Go.Proofs.Ytbnnfhpphelmfaa
open Go.RowKit

theorem same_upto {A B : List Int} (hl : A.length = B.length) (h : ∀ i, i < A.length → A.getD i 0 = B.getD i 0) : A = B := by
  refine List.ext_getElem hl fun i h1 h2 => ?_
  have := h i h1
  simpa [List.getD, h1, h2] using this

theorem ints2_any (ao bo : Option Addr) (la ca lb cb : Nat) (A B : List Int) (hla : A.length = la) (hlb : B.length = lb) (hm : la ≤ maxLen) (w : World) (ha : IAt w ao A w.heap.size) (hb : IAt w bo B w.heap.size) :
    Calls Try.prog 11 #[.slice ao la ca, .slice bo lb cb] w fun e w' => e = .returned (.bool (decide (A = B))) ∧ Below w.heap.size w w' := by
  have HA := IAt.hid hla ha
  have HB := IAt.hid hlb hb
  unfold maxLen at hm
  by_cases hne : la = lb
  · subst hne
    have hd0 : ((la : Int) != (la : Int)) = false := by simp
    have HNE := Lib.hid (fun i (h1 : i < la) (h2 : A.getD i 0 ≠ B.getD i 0) => show decide (A = B) = false from decide_eq_false fun e => h2 (by rw [e]))
    have HEQ := Lib.hid (fun (h : ∀ i, i < la → A.getD i 0 = B.getD i 0) => show decide (A = B) = true from decide_eq_true (same_upto (hla.trans hlb.symm) (by rw [hla]; exact h)))
    clear hla hlb ha hb
    generalize decide (A = B) = r at *
    go_enter Try.func11, Try.ntmps11
    go_wp2
    go_loopw [5] (fun i wr => ∃ k : Nat, k ≤ la ∧ i = .int .i64 k ∧ Hid (∀ j, j < k → A.getD j 0 = B.getD j 0) ∧ Below w.heap.size w wr)
      (fun i _ => la - (intOf i).toNat)
    case atStart => exact ⟨0, Nat.zero_le _, rfl, Lib.hid fun j h => absurd h (Nat.not_lt_zero _), Below.refl _ _⟩
    case round =>
      obtain ⟨k, hk, rfl, hall, hW⟩ := hrel
      by_cases hlt : k < la
      · obtain ⟨g, off, rfl, hg, hc⟩ := HA.out (by omega)
        obtain ⟨g', off', rfl, hg', hc'⟩ := HB.out (by omega)
        have e1 := hc k hlt wr hW
        have e2 := hc' k hlt wr hW
        have hlti : (k : Int) < (la : Int) := by omega
        have hk0 : (0 : Int) ≤ (k : Int) := by omega
        have HN := Lib.hid (HNE.out k hlt)
        have HS := Lib.hid (fun (e : A.getD k 0 = B.getD k 0) j (hj : j < k + 1) => show A.getD j 0 = B.getD j 0 by
          rcases Nat.lt_or_ge j k with h | h
          · exact hall.out j h
          · obtain rfl : j = k := by omega
            exact e)
        clear hc hc' HA HB hall
        obtain ⟨x, hx⟩ : ∃ x, A.getD k 0 = x := ⟨_, rfl⟩
        obtain ⟨y, hy⟩ : ∃ y, B.getD k 0 = y := ⟨_, rfl⟩
        rw [hx] at e1 HN HS
        rw [hy] at e2 HN HS
        clear hx hy
        by_cases hxy : x = y
        · have hd : (x != y) = false := by simpa using hxy
          have HS2 := Lib.hid (HS.out hxy)
          clear hxy HN HS
          go_wp2_with fail
          go_quiet (fail)
          go_wp2
          go_roundw
          case rel => exact ⟨k + 1, by omega, by go_num, HS2, below_drewN hW _⟩
          case measure => simp [intOf]; omega
        · have hd : (x != y) = true := by simpa using hxy
          have HN2 := Lib.hid (HN.out hxy)
          clear hxy HN HS
          go_wp2_with fail
          go_quiet (fail)
          go_wp2
          go_ret
          exact ⟨by rw [HN2.out]; rfl, below_drewN hW _⟩
      · obtain rfl : k = la := by omega
        have HE := Lib.hid (HEQ.out hall.out)
        clear hall HA HB
        go_wp2
        go_ret
        exact ⟨by rw [HE.out]; rfl, hW⟩
  · have hd0 : ((la : Int) != (lb : Int)) = true := by simpa using fun e : (la : Int) = (lb : Int) => hne (by omega)
    have HE := Lib.hid (show decide (A = B) = false from decide_eq_false fun e => hne (by rw [← hla, ← hlb, e]))
    clear hla hlb ha hb HA HB hne
    go_enter Try.func11, Try.ntmps11
    go_wp2
    go_ret
    exact ⟨by rw [HE.out]; rfl, Below.refl _ _⟩

theorem ownints_any (ao : Option Addr) (len cap : Nat) (L : List Int) (hl : L.length = len) (hlen : len ≤ 4294967296) (w : World) (ha : IAt w ao L w.heap.size) :
    Calls Try.prog 9 #[.slice ao len cap] w fun e w' => ∃ v, e = .returned v ∧ w'.ownsRow w.heap.size 3 1 v len (numCells L) ∧ Below w.heap.size w w' := by
  have HL := Lib.hid hl
  have HA := Lib.hid ha
  have hown0 : w.ownsRow w.heap.size 3 1 (.slice none 0 0) 0 (numCells []) := World.ownsRow_nil _ _ _ _
  clear hl ha
  go_enter Try.func9, Try.ntmps9
  go_wp2_with (first | (at_builtin; refine wpList_append_nums _ rfl _ _ rfl w.heap.size (.slice none 0 0) 0 [] rfl hown0 ao len cap L rfl HL.out HA.out (by omega) (Nat.le_refl _) ?_; intro v1 w1 hown1 hg; rw [Nat.zero_add, List.nil_append] at hown1; have HB := Lib.hid (grown_lowN hown0 (Nat.le_refl _) hg); clear hg) | fail)
  go_ret
  exact ⟨_, rfl, hown1, HB.out⟩
end Go.Proofs.Ytbnnfhpphelmfaa
