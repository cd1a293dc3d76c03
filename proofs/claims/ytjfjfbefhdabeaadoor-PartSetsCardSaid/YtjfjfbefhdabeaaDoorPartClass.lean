/-
  The walk of package part's Class: ErrArg of what is no partition, else of each byte which set has it, in a new slice; nothing that was there before the call has changed. Conditions: the sets lie in memory as a slice, fewer than 2^40 of them; the table of math/bits as it is laid.
-/
import Derived.Test.YtjfjfbefhdabeaaDoorPartIsP
import Derived.Test.YtjfjfbefhdabeaaDoorPartRefC
import Derived.Test.YtjfjfbefhdabeaaDoorPartIsClass
namespace Go.Proofs.YtjfjfbefhdabeaaDoor
open Go.RowKit

/-- The classes of all bytes, as numbers. -/
def ints (c : Nat → Nat) : List Int := (List.range 256).map fun i => ((c i : Nat) : Int)
theorem ints_length (c : Nat → Nat) : (ints c).length = 256 := by simp [ints]
theorem ints_get (c : Nat → Nat) (i : Nat) (h : i < 256) : (ints c).getD i 0 = ((c i : Nat) : Int) := by simp [ints, List.getD, h]
theorem ints_ext {c d : Nat → Nat} (h : ∀ b, b < 256 → c b = d b) : ints c = ints d := by
  unfold ints
  refine List.map_congr_left fun b hb => ?_
  rw [h b (by simpa using hb)]
theorem natOf_ints (c : Nat → Nat) (b : Nat) (hb : b < 256) : natOf (ints c) b = c b := by
  unfold natOf
  rw [ints_get c b hb]
  omega
theorem IAt.of_blk {W : World} {g : Nat} {c : Nat → Nat} (h : Blk W g 3 (nums .i64 256 fun i => ((c i : Nat) : Int))) : IAt W (some ⟨g, 0, none⟩) (ints c) W.heap.size := by
  intro _
  refine ⟨g, 0, rfl, h.lt, fun i hi => ?_⟩
  rw [ints_length] at hi
  rw [Nat.zero_add, h.cell, nums_get _ _ _ i hi, ints_get c i hi]

/-- The classes noted when all sets below at, and at's bytes below b, have been seen. -/
def clTo (c : Nat → Nat) (a b : Nat) : Nat → Int := fun i => if c i < a ∨ (c i = a ∧ i < b) then ((c i : Nat) : Int) else 0
theorem clTo_t (c : Nat → Nat) (a b : Nat) (h : c b = a) : clTo c a (b + 1) = fun i => if i = b then ((a : Nat) : Int) else clTo c a b i := by
  funext i
  unfold clTo
  by_cases e : i = b
  · subst e
    rw [if_pos rfl, if_pos (.inr ⟨h, by omega⟩), h]
  · rw [if_neg e]
    have : (c i < a ∨ (c i = a ∧ i < b + 1)) = (c i < a ∨ (c i = a ∧ i < b)) := by apply propext; omega
    simp only [this]
theorem clTo_f (c : Nat → Nat) (a b : Nat) (h : ¬ c b = a) : clTo c a (b + 1) = clTo c a b := by
  funext i
  unfold clTo
  have : (c i < a ∨ (c i = a ∧ i < b + 1)) = (c i < a ∨ (c i = a ∧ i < b)) := by
    apply propext
    by_cases e : i = b
    · subst e; omega
    · omega
  simp only [this]
theorem clTo_row (c : Nat → Nat) (a : Nat) : nums .i64 256 (clTo c a 256) = nums .i64 256 (clTo c (a + 1) 0) := nums_ext fun i hi => by
  unfold clTo
  have : (c i < a ∨ (c i = a ∧ i < 256)) = (c i < a + 1 ∨ (c i = a + 1 ∧ i < 0)) := by apply propext; omega
  simp only [this]
theorem clTo_zero (c : Nat → Nat) : clTo c 0 0 = fun _ => 0 := by
  funext i
  unfold clTo
  rw [if_neg (by omega)]

theorem class_bad (ao : Option Addr) (len cap : Nat) (P : List (Nat → Bool)) (hl : P.length = len) (hlen : len ≤ 1099511627776) (w : World) (hT : Tab w) (hS : SAt w ao P w.heap.size) (hp : ¬ IsPart P) :
    Calls Tryd.prog 10 #[.slice ao len cap] w fun e w' => e = .returned (.tuple #[.slice none 0 0, .int .i64 1]) ∧ Below w.heap.size w w' := by
  have HS := Lib.hid hS
  have HT := Lib.hid hT
  have HL := Lib.hid hl
  have hf := partB_f hp
  clear hS hp hT hl
  go_enter Tryd.func10, Tryd.ntmps10
  go_wp2_with fail
  refine (isPart_any ao len cap P HL.out hlen w HT.out HS.out).mono ?_
  rw [hf]
  rintro e w1 ⟨rfl, hb1⟩
  go_wp2
  go_ret2
  exact ⟨rfl, hb1⟩

set_option maxRecDepth 100000 in
set_option maxHeartbeats 4000000 in
theorem class_any (ao : Option Addr) (len cap : Nat) (P : List (Nat → Bool)) (hl : P.length = len) (hlen : len ≤ 1099511627776) (w : World) (hT : Tab w) (hS : SAt w ao P w.heap.size) (hp : IsPart P) :
    Calls Tryd.prog 10 #[.slice ao len cap] w fun e w' => ∃ bo, e = .returned (.tuple #[.slice bo 256 256, .int .i64 0]) ∧ IAt w' bo (ints (fi P)) w'.heap.size ∧ Below w.heap.size w w' := by
  have HL := Lib.hid hl
  have HS := Lib.hid hS
  have HT := Lib.hid hT
  have HP := Lib.hid hp
  have ht := (partB_iff P).2 hp
  have hmk := make_ints
  clear hl hS hT hp
  go_enter Tryd.func10, Tryd.ntmps10
  go_wp2_with fail
  refine (isPart_any ao len cap P HL.out hlen w HT.out HS.out).mono ?_
  rw [ht]
  rintro e w0 ⟨rfl, hb0⟩
  have HB0 := Lib.hid hb0
  have hsz := hb0.size
  clear hb0 ht
  go_wp2_with fail
  generalize hW : w0.alloc (.cells (nums .i64 256 fun _ => 0) 3) = wa
  have hM0 : Hid (Blk wa w0.heap.size 3 (nums .i64 256 (clTo (fi P) 0 0))) := Lib.hid (by rw [clTo_zero, ← hW]; exact Blk.new _ _ _)
  have hBa : Hid (Below w.heap.size w wa) := Lib.hid (by rw [← hW]; exact bal HB0.out _)
  clear hW
  generalize w0.heap.size = g0 at *
  go_loopw [14] (fun i wr => ∃ a : Nat, a ≤ len ∧ i = .int .i64 a ∧ Blk wr g0 3 (nums .i64 256 (clTo (fi P) a 0)) ∧ Below w.heap.size w wr)
    (fun i _ => len - (intOf i).toNat)
  case atStart => exact ⟨0, Nat.zero_le _, rfl, hM0.out, hBa.out⟩
  case round =>
    clear hM0 hBa
    obtain ⟨a, ha, rfl, hM, hB⟩ := hrel
    by_cases hlt : a < len
    · obtain ⟨g, off, rfl, hg, hc⟩ := HS.out (by rw [HL.out]; omega)
      obtain ⟨s0, s1, s2, s3⟩ := (hc a (by rw [HL.out]; exact hlt)).below hB hg
      have hhas := Lib.hid (fun b hb => HP.out.has b hb a (by rw [HL.out]; exact hlt))
      have hrow := Lib.hid (clTo_row (fi P) a)
      clear hc
      generalize P.getD a no = S at s0 s1 s2 s3 hhas
      have halt : (a : Int) < (len : Int) := by omega
      generalize wr = wo at *
      have hM1 := Lib.hid (hM.alloc (.cells (cells4 S) 35))
      have hB1 := Lib.hid (bal hB (.cells (cells4 S) 35))
      have hS1 := Lib.hid (Blk.new wo 35 (cells4 S))
      have hgo := hM.lt
      have hgb := hB.size
      go_wp2_with fail
      clear s0 s1 s2 s3 hM hB
      generalize wo.heap.size = gs at *
      go_loopw [19] (fun j wr => ∃ b : Nat, b ≤ 256 ∧ j = .int .i64 b ∧ Blk wr g0 3 (nums .i64 256 (clTo (fi P) a b)) ∧ Blk wr gs 35 (cells4 S) ∧ Below w.heap.size w wr)
        (fun j _ => 256 - (intOf j).toNat)
      case atStart => exact ⟨0, by decide, rfl, hM1.out, hS1.out, hB1.out⟩
      case round =>
        clear hM1 hS1 hB1
        obtain ⟨b, hb, rfl, hM, hSb, hB⟩ := hrel
        by_cases hblt : b < 256
        · have hwk : IntKind.u8.wrap (b : Int) = (b : Int) := by rw [IntKind.wrap_u8]; omega
          have hhb := hhas.out b hblt
          have hct := Lib.hid (clTo_t (fi P) a b)
          have hcf := Lib.hid (clTo_f (fi P) a b)
          obtain ⟨s0, s1, s2, s3⟩ := hSb.cells
          go_wp2_with fail
          refine (has_any S b (by omega) wr).mono ?_
          by_cases hfa : fi P b = a
          · have hst := Lib.hid (hct.out hfa)
            rw [hhb, hfa, beq_self_eq_true]
            rintro e w1 ⟨rfl, hb1⟩
            have hM1 := hM.below hb1 hM.lt
            have hS1 := hSb.below hb1 hSb.lt
            have hB1 := btr hB hb1
            have hs := (hM1.cell b).trans (nums_get _ _ _ b hblt)
            have hsf := hM1.frozen b
            have h2 := hM1.set b (.int .i64 (a : Int))
            rw [nums_set, ← hst.out] at h2
            clear s0 s1 s2 s3 hM hSb hB hb1 hhb hfa hct hcf hst
            go_wp2
            clear hs hsf
            go_roundw
            case rel => exact ⟨b + 1, by omega, by go_num, h2, hS1.other _ _ (by simp only; omega), hB1.setCell (by simp only; omega) _⟩
            case measure => simp [intOf]; omega
          · have hst := Lib.hid (hcf.out hfa)
            have hff : S b = false := by rw [hhb]; simp; exact hfa
            rw [hff]
            rintro e w1 ⟨rfl, hb1⟩
            have hM1 := hM.below hb1 hM.lt
            have hS1 := hSb.below hb1 hSb.lt
            have hB1 := btr hB hb1
            clear s0 s1 s2 s3 hM hSb hB hb1 hhb hfa hct hcf hff
            go_wp2
            go_roundw
            case rel => exact ⟨b + 1, by omega, by go_num, by rw [hst.out]; exact hM1, hS1, hB1⟩
            case measure => simp [intOf]; omega
        · obtain rfl : b = 256 := by omega
          go_wp2
          go_roundw
          case rel => exact ⟨a + 1, by omega, by go_num, by rw [← hrow.out]; exact hM, hB⟩
          case measure => simp [intOf]; omega
    · obtain rfl : a = len := by omega
      have hM' : Blk wr g0 3 (nums .i64 256 fun i => ((fi P i : Nat) : Int)) := by
        rw [← nums_ext (f := clTo (fi P) a 0) (g := fun i => ((fi P i : Nat) : Int)) (fun i hi => by
          unfold clTo
          rw [if_pos (.inl (by have := Pt.lt HP.out i hi; rw [HL.out] at this; exact this))])]
        exact hM
      have hI := Lib.hid (IAt.of_blk hM')
      clear hM hM'
      go_wp2
      go_ret2
      exact ⟨_, rfl, hI.out, hB⟩
end Go.Proofs.YtjfjfbefhdabeaaDoor
