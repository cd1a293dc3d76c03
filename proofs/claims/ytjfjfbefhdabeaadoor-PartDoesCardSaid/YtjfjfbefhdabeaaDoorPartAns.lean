/-
  The contracts of package part's calls and of the reference's, with or without an error, in one form each: what is answered is one list and one number, the same for both. Conditions: the arguments lie in memory as slices; the table of math/bits as it is laid.
-/
import Derived.Test.YtjfjfbefhdabeaaDoorPartRefO
import Derived.Test.YtjfjfbefhdabeaaDoorPartRefP
import Derived.Test.YtjfjfbefhdabeaaDoorPartSets
import Derived.Test.YtjfjfbefhdabeaaDoorPartParts
namespace Go.Proofs.YtjfjfbefhdabeaaDoor
open Go.RowKit

def ptA (L : List (Nat → Bool)) : List (Nat → Bool) := if L.length ≤ 1024 then parts L else []
def ptE (L : List (Nat → Bool)) : Int := if L.length ≤ 1024 then 0 else 2
theorem ptA_le (L : List (Nat → Bool)) : (ptA L).length ≤ 256 := by
  unfold ptA
  split
  · exact parts_length_le L
  · exact Nat.zero_le _
open Classical in
noncomputable def cA (P : List (Nat → Bool)) : List Int := if IsPart P then ints (fi P) else []
open Classical in
noncomputable def cE (P : List (Nat → Bool)) : Int := if IsPart P then 0 else 1
theorem cA_le (P : List (Nat → Bool)) : (cA P).length ≤ 256 := by
  unfold cA
  split
  · rw [ints_length]; exact Nat.le_refl _
  · exact Nat.zero_le _
open Classical in
noncomputable def sA (xs : List Int) : List (Nat → Bool) := if ClassOk xs then prts (natOf xs) 256 else []
open Classical in
noncomputable def sE (xs : List Int) : Int := if ClassOk xs then 0 else 1
theorem sA_le (xs : List Int) : (sA xs).length ≤ 256 := by
  unfold sA
  split
  · next h => rw [prts_length]; exact nx_le _ _ h.rgs
  · exact Nat.zero_le _
open Classical in
noncomputable def oA (P : List (Nat → Bool)) (S : Nat → Bool) : List Int := if IsPart P then ((ov P S).getD []).map fun x : Nat => (x : Int) else []
open Classical in
noncomputable def oE (P : List (Nat → Bool)) (S : Nat → Bool) : Int := if IsPart P ∧ (ov P S).isSome = true then 0 else 1
theorem oA_le (P : List (Nat → Bool)) (S : Nat → Bool) : (oA P S).length ≤ P.length := by
  unfold oA
  split
  · rw [List.length_map]
    cases h : ov P S with
    | none => exact Nat.zero_le _
    | some l => exact (ovTo_bound _ l h).1
  · exact Nat.zero_le _

/-- What comes out: a slice of these sets and this number. -/
def AnsS (X : List (Nat → Bool)) (er : Int) (w : World) (e : Ending) (w' : World) : Prop := ∃ po pc, e = .returned (.tuple #[.slice po X.length pc, .int .i64 er]) ∧ SAt w' po X w'.heap.size ∧ Below w.heap.size w w'
/-- What comes out: a slice of these numbers and this number. -/
def AnsI (X : List Int) (er : Int) (w : World) (e : Ending) (w' : World) : Prop := ∃ po pc, e = .returned (.tuple #[.slice po X.length pc, .int .i64 er]) ∧ IAt w' po X w'.heap.size ∧ Below w.heap.size w w'
theorem ansS_nil {er : Int} {w w' : World} (h : Below w.heap.size w w') : AnsS [] er w (.returned (.tuple #[.slice none 0 0, .int .i64 er])) w' := ⟨none, 0, rfl, fun h => by simp at h, h⟩
theorem ansI_nil {er : Int} {w w' : World} (h : Below w.heap.size w w') : AnsI [] er w (.returned (.tuple #[.slice none 0 0, .int .i64 er])) w' := ⟨none, 0, rfl, fun h => by simp at h, h⟩
theorem ansS_own {X : List (Nat → Bool)} {er : Int} {w w' : World} {v : Value} {base : Nat} (ho : w'.ownsRow base 35 4 v X.length (setCells X)) (h : Below w.heap.size w w') : AnsS X er w (.returned (.tuple #[v, .int .i64 er])) w' := by
  obtain ⟨po, pc, rfl, hat⟩ := SAt.of_owns ho
  exact ⟨po, pc, rfl, hat, h⟩

theorem parts_ans (ao : Option Addr) (len cap : Nat) (L : List (Nat → Bool)) (hl : L.length = len) (w : World) (hS : SAt w ao L w.heap.size) :
    Calls Tryd.prog 8 #[.slice ao len cap] w (AnsS (ptA L) (ptE L) w) := by
  unfold ptA ptE
  rw [hl]
  split
  · next h =>
    refine (parts_any (H := Unit) ao len cap L hl h w hS).mono ?_
    rintro e w' ⟨v, rfl, ho, hb⟩
    exact ansS_own ho hb
  · next h =>
    refine (parts_long ao len cap (by omega) w).mono ?_
    rintro e w' ⟨rfl, hb⟩
    exact ansS_nil hb
theorem refparts_ans (ao : Option Addr) (len cap : Nat) (L : List (Nat → Bool)) (hl : L.length = len) (w : World) (hS : SAt w ao L w.heap.size) :
    Calls Tryd.prog 9 #[.slice ao len cap] w (AnsS (ptA L) (ptE L) w) := by
  unfold ptA ptE
  rw [hl]
  split
  · next h =>
    refine (refparts_any ao len cap L hl h w hS).mono ?_
    rintro e w' ⟨v, rfl, ho, hb⟩
    exact ansS_own ho hb
  · next h =>
    refine (refparts_long ao len cap (by omega) w).mono ?_
    rintro e w' ⟨rfl, hb⟩
    exact ansS_nil hb
theorem class_ans (ao : Option Addr) (len cap : Nat) (P : List (Nat → Bool)) (hl : P.length = len) (hlen : len ≤ 1099511627776) (w : World) (hT : Tab w) (hS : SAt w ao P w.heap.size) :
    Calls Tryd.prog 10 #[.slice ao len cap] w (AnsI (cA P) (cE P) w) := by
  unfold cA cE
  split
  · next h =>
    refine (class_any ao len cap P hl hlen w hT hS h).mono ?_
    rintro e w' ⟨bo, rfl, hi, hb⟩
    exact ⟨bo, 256, by rw [ints_length], hi, hb⟩
  · next h =>
    refine (class_bad ao len cap P hl hlen w hT hS h).mono ?_
    rintro e w' ⟨rfl, hb⟩
    exact ansI_nil hb
theorem refclass_ans (ao : Option Addr) (len cap : Nat) (P : List (Nat → Bool)) (hl : P.length = len) (hlen : len ≤ 1099511627776) (w : World) (hS : SAt w ao P w.heap.size) :
    Calls Tryd.prog 11 #[.slice ao len cap] w (AnsI (cA P) (cE P) w) := by
  unfold cA cE
  split
  · next h =>
    refine (refclass_any ao len cap P hl hlen w hS h).mono ?_
    rintro e w' ⟨bo, rfl, hi, hb⟩
    exact ⟨bo, 256, by rw [ints_length], hi, hb⟩
  · next h =>
    refine (refclass_bad ao len cap P hl hlen w hS h).mono ?_
    rintro e w' ⟨rfl, hb⟩
    exact ansI_nil hb
theorem sets_ans (ao : Option Addr) (len cap : Nat) (xs : List Int) (hl : xs.length = len) (w : World) (hS : IAt w ao xs w.heap.size) :
    Calls Tryd.prog 15 #[.slice ao len cap] w (AnsS (sA xs) (sE xs) w) := by
  unfold sA sE
  split
  · next h =>
    obtain rfl : len = 256 := hl.symm.trans h.len
    refine (sets_any ao cap xs w hS h).mono ?_
    rintro e w' ⟨v, rfl, ho, hb⟩
    exact ansS_own ho hb
  · next h =>
    refine (sets_bad ao len cap xs hl w hS h).mono ?_
    rintro e w' ⟨rfl, hb⟩
    exact ansS_nil hb
theorem refsets_ans (ao : Option Addr) (len cap : Nat) (xs : List Int) (hl : xs.length = len) (hlen : len ≤ 1099511627776) (w : World) (hS : IAt w ao xs w.heap.size) :
    Calls Tryd.prog 16 #[.slice ao len cap] w (AnsS (sA xs) (sE xs) w) := by
  unfold sA sE
  split
  · next h =>
    refine (refsets_any ao len cap xs hl hlen w hS h).mono ?_
    rintro e w' ⟨v, rfl, ho, hb⟩
    exact ansS_own ho hb
  · next h =>
    refine (refsets_bad ao len cap xs hl hlen w hS h).mono ?_
    rintro e w' ⟨rfl, hb⟩
    exact ansS_nil hb
theorem over_mk {P : List (Nat → Bool)} {S : Nat → Bool} (h : IsPart P) {w w' : World} {v : Value} (hv : (∃ l bo bc, ov P S = some l ∧ v = .tuple #[.slice bo l.length bc, .int .i64 0] ∧ IAt w' bo (l.map fun x : Nat => (x : Int)) w'.heap.size) ∨ (ov P S = none ∧ v = .tuple #[.slice none 0 0, .int .i64 1])) (hb : Below w.heap.size w w') :
    AnsI (oA P S) (oE P S) w (.returned v) w' := by
  rcases hv with ⟨l, bo, bc, h1, rfl, h2⟩ | ⟨h1, rfl⟩
  · have e1 : oA P S = l.map fun x : Nat => (x : Int) := by unfold oA; rw [if_pos h, h1]; rfl
    have e2 : oE P S = 0 := by unfold oE; rw [if_pos ⟨h, by rw [h1]; rfl⟩]
    rw [e1, e2]
    exact ⟨bo, bc, by rw [List.length_map], h2, hb⟩
  · have e1 : oA P S = [] := by unfold oA; rw [if_pos h, h1]; rfl
    have e2 : oE P S = 1 := by
      unfold oE
      rw [if_neg]
      rintro ⟨_, h2⟩
      rw [h1] at h2
      cases h2
    rw [e1, e2]
    exact ansI_nil hb
theorem over_nmk {P : List (Nat → Bool)} {S : Nat → Bool} (h : ¬ IsPart P) {w w' : World} (hb : Below w.heap.size w w') :
    AnsI (oA P S) (oE P S) w (.returned (.tuple #[.slice none 0 0, .int .i64 1])) w' := by
  have e1 : oA P S = [] := by unfold oA; rw [if_neg h]
  have e2 : oE P S = 1 := by unfold oE; rw [if_neg fun h2 => h h2.1]
  rw [e1, e2]
  exact ansI_nil hb
theorem over_ans (ao : Option Addr) (len cap : Nat) (P : List (Nat → Bool)) (S : Nat → Bool) (hl : P.length = len) (hlen : len ≤ 1099511627776) (w : World) (hT : Tab w) (hS : SAt w ao P w.heap.size) :
    Calls Tryd.prog 17 #[.slice ao len cap, sv S] w (AnsI (oA P S) (oE P S) w) := by
  by_cases h : IsPart P
  · refine (over_any ao len cap P S hl hlen w hT hS h).mono ?_
    rintro e w' ⟨v, rfl, hv, hb⟩
    exact over_mk h hv hb
  · refine (over_bad ao len cap P S hl hlen w hT hS h).mono ?_
    rintro e w' ⟨rfl, hb⟩
    exact over_nmk h hb
theorem refover_ans (ao : Option Addr) (len cap : Nat) (P : List (Nat → Bool)) (S : Nat → Bool) (hl : P.length = len) (hlen : len ≤ 1099511627776) (w : World) (hS : SAt w ao P w.heap.size) :
    Calls Tryd.prog 18 #[.slice ao len cap, sv S] w (AnsI (oA P S) (oE P S) w) := by
  by_cases h : IsPart P
  · refine (refover_any ao len cap P S hl hlen w hS h).mono ?_
    rintro e w' ⟨v, rfl, hv, hb⟩
    exact over_mk h hv hb
  · refine (refover_bad ao len cap P S hl hlen w hS h).mono ?_
    rintro e w' ⟨rfl, hb⟩
    exact over_nmk h hb
end Go.Proofs.YtjfjfbefhdabeaaDoor
