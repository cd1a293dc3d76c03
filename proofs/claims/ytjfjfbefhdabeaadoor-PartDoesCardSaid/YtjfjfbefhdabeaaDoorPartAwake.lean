/-
  The document's example, that every statement of this layer asks: it returns true; nothing that was there before the call has changed. Conditions: the table of math/bits as it is laid.
-/
import Derived.Test.YtjfjfbefhdabeaaDoorPartParts
import Derived.Test.YtjfjfbefhdabeaaDoorPartClass
namespace Go.Proofs.YtjfjfbefhdabeaaDoor
open Go.RowKit

/-- The example's sets. -/
def exL : List (Nat → Bool) := [ofL [97], ofL [97, 98]]
def exC (b : Nat) : Nat := if b = 97 then 1 else if b = 98 then 2 else 0
theorem exC_rgs : rgs exC 256 := by
  intro b _
  by_cases h : b = 97
  · subst h
    have h1 := nx_gt exC 97 0 (by decide)
    have e : exC 97 = 1 := rfl
    have e0 : exC 0 = 0 := rfl
    omega
  · by_cases h' : b = 98
    · subst h'
      have h1 := nx_gt exC 98 97 (by decide)
      have e : exC 98 = 2 := rfl
      have e0 : exC 97 = 1 := rfl
      omega
    · have e : exC b = 0 := by unfold exC; rw [if_neg h, if_neg h']
      omega
theorem nx_bound (c : Nat → Nat) (m : Nat) (h : ∀ b, c b < m) : ∀ n, nx c n ≤ m
  | 0 => Nat.zero_le _
  | n + 1 => by
    have := nx_bound c m h n
    have := h n
    rw [nx]; omega
theorem exC_nx : nx exC 256 = 3 := by
  have h1 := nx_gt exC 256 98 (by decide)
  have h2 := nx_bound exC 3 (fun b => by unfold exC; split <;> (try split) <;> omega) 256
  have e : exC 98 = 2 := rfl
  omega
theorem exC_cls (b : Nat) (hb : b < 256) : cls exL b = exC b := by
  refine rgs_same (cls_rgs exL 256) exC_rgs (fun a b _ _ => ?_) b hb
  rw [cls_iff, alk_iff]
  have m1 : ∀ x, ofL [97] x = decide (x = 97) := fun x => by simp [ofL]
  have m2 : ∀ x, ofL [97, 98] x = (decide (x = 97) || decide (x = 98)) := fun x => by simp [ofL]
  have : (∀ S ∈ exL, S a = S b) ↔ (ofL [97] a = ofL [97] b ∧ ofL [97, 98] a = ofL [97, 98] b) := by simp [exL]
  rw [this, m1, m1, m2, m2]
  unfold exC
  by_cases a1 : a = 97 <;> by_cases a2 : a = 98 <;> by_cases b1 : b = 97 <;> by_cases b2 : b = 98 <;> simp [a1, a2, b1, b2] <;> omega
theorem ex_length : (parts exL).length = 3 := by
  rw [parts, prts_length, nx_ext 256 exC_cls]; exact exC_nx
theorem ex_ints : ints (fi (parts exL)) = ints exC := ints_ext fun b hb => ((parts_pt exL).fi b hb).trans (exC_cls b hb)

theorem setsAt (W : World) (L : List (Nat → Bool)) : SAt (W.alloc (.cells (setCells L).toArray 35)) (some ⟨W.heap.size, 0, none⟩) L (W.alloc (.cells (setCells L).toArray 35)).heap.size := by
  intro _
  have hb := Blk.new W 35 (setCells L).toArray
  refine ⟨W.heap.size, 0, rfl, hb.lt, fun i hi => ?_⟩
  obtain ⟨h0, h1, h2, h3⟩ := setCells_get L i hi
  rw [Nat.zero_add]
  exact ⟨(hb.cell _).trans (by simpa using h0), (hb.cell _).trans (by simpa using h1), (hb.cell _).trans (by simpa using h2), (hb.cell _).trans (by simpa using h3)⟩

set_option maxRecDepth 100000 in
set_option maxHeartbeats 4000000 in
theorem awake_part (w : World) (hT : Tab w) :
    Calls Tryd.prog 12 #[] w fun e w' => e = .returned (.bool true) ∧ Below w.heap.size w w' := by
  go_enter Tryd.func12, Tryd.ntmps12
  go_wp2_with fail
  have hA := Blk.new w 5 #[.int .u8 97]
  refine (of_any (some ⟨w.heap.size, 0, none⟩) 1 1 [97] rfl (by decide) (by decide) _ (fun _ => ⟨w.heap.size, 0, rfl, fun i hi => ?_⟩)).mono ?_
  · obtain rfl : i = 0 := by omega
    exact hA.cell 0
  rintro e w1 ⟨rfl, hb1⟩
  have hB1 := btr (bal (Below.refl w.heap.size w) _) hb1
  clear hA hb1
  go_wp2_with fail
  have hA := Blk.new w1 5 #[.int .u8 97, .int .u8 98]
  refine (of_any (some ⟨w1.heap.size, 0, none⟩) 2 2 [97, 98] rfl (by decide) (by decide) _ (fun _ => ⟨w1.heap.size, 0, rfl, fun i hi => ?_⟩)).mono ?_
  · match i, hi with
    | 0, _ => exact hA.cell 0
    | 1, _ => exact hA.cell 1
  rintro e w2 ⟨rfl, hb2⟩
  have hB2 := btr (bal hB1 _) hb2
  have hT2 := hT.below' hB2
  clear hA hb2 hB1 hT
  go_wp2_with fail
  have hL := setsAt w2 exL
  have hB3 := bal hB2 (.cells (setCells exL).toArray 35)
  have hT3 := hT2.below' (bal (Below.refl _ _) (.cells (setCells exL).toArray 35))
  refine (parts_any (H := Unit) _ 2 2 exL rfl (by decide) _ hL).mono ?_
  rintro e w4 ⟨v, rfl, hown, hb4⟩
  obtain ⟨po, pc, rfl, hat⟩ := SAt.of_owns hown
  have hB4 := btr hB3 hb4
  have hT4 := hT3.below' hb4
  rw [ex_length]
  clear hL hB3 hT3 hB2 hT2 hb4 hown
  go_wp2_with fail
  refine (class_any po 3 pc (parts exL) ex_length (by decide) w4 hT4 hat (parts_pt exL).isPart).mono ?_
  rintro e w5 ⟨bo, rfl, hi, hb5⟩
  rw [ex_ints] at hi
  obtain ⟨g, off, rfl, hg, hc⟩ := hi (by rw [ints_length]; decide)
  have c1 := hc 96 (by rw [ints_length]; decide)
  have c2 := hc 97 (by rw [ints_length]; decide)
  have c3 := hc 98 (by rw [ints_length]; decide)
  have c4 := hc 99 (by rw [ints_length]; decide)
  rw [ints_get _ _ (by decide)] at c1 c2 c3 c4
  have e1 : ((exC 96 : Nat) : Int) = 0 := rfl
  have e2 : ((exC 97 : Nat) : Int) = 1 := rfl
  have e3 : ((exC 98 : Nat) : Int) = 2 := rfl
  have e4 : ((exC 99 : Nat) : Int) = 0 := rfl
  rw [e1] at c1
  rw [e2] at c2
  rw [e3] at c3
  rw [e4] at c4
  have hB5 := btr hB4 hb5
  clear hat hB4 hT4 hb5 hi hc e1 e2 e3 e4
  go_wp2
  go_ret
  exact ⟨rfl, hB5⟩
end Go.Proofs.YtjfjfbefhdabeaaDoor
