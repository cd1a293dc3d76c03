/-
  The walk of package part's marks: the text that says of each set whether it has the byte; nothing that was there before the call has changed. Conditions: the sets lie in memory as a slice, fewer than 2^40 of them.
-/
import Derived.Test.YtjfjfbefhdabeaaDoorPartKit
import Derived.Laws.BytesArg
namespace Go.Proofs.YtjfjfbefhdabeaaDoor
open Go.RowKit

/-- A row of n numbers. -/
def nums (q : IntKind) (n : Nat) (f : Nat → Int) : Array Value := (Array.range n).map fun i => Value.int q (f i)
theorem nums_size (q : IntKind) (n : Nat) (f : Nat → Int) : (nums q n f).size = n := by simp [nums]
theorem nums_get (q : IntKind) (n : Nat) (f : Nat → Int) (k : Nat) (hk : k < n) : (nums q n f)[k]? = some (.int q (f k)) := by
  unfold nums
  rw [Array.getElem?_map, Array.getElem?_range]
  simp [hk]
theorem nums_made (q : IntKind) (n : Nat) : madeCells #[Value.int q 0] n = nums q n fun _ => 0 := by
  unfold madeCells nums
  congr 1
  funext i
  show #[Value.int q 0][i % 1]! = _
  rw [Nat.mod_one]
  rfl
theorem nums_ext {q : IntKind} {n : Nat} {f g : Nat → Int} (h : ∀ i, i < n → f i = g i) : nums q n f = nums q n g := by
  apply Array.ext_getElem?
  intro i
  by_cases hi : i < n
  · rw [nums_get _ _ _ _ hi, nums_get _ _ _ _ hi, h i hi]
  · rw [Array.getElem?_eq_none (by rw [nums_size]; omega), Array.getElem?_eq_none (by rw [nums_size]; omega)]
theorem nums_set (q : IntKind) (n : Nat) (f : Nat → Int) (x : Nat) (y : Int) : (nums q n f).setIfInBounds x (.int q y) = nums q n fun i => if i = x then y else f i := by
  apply Array.ext_getElem?
  intro i
  rw [Array.getElem?_setIfInBounds]
  by_cases hi : i < n
  · rw [nums_get _ _ _ _ hi, nums_get _ _ _ _ hi]
    by_cases e : x = i
    · subst e; simp [nums_size, hi]
    · have : ¬ i = x := fun h => e h.symm
      simp [e, this]
  · have h1 : (nums q n f)[i]? = none := Array.getElem?_eq_none (by rw [nums_size]; omega)
    have h2 : (nums q n fun i => if i = x then y else f i)[i]? = none := Array.getElem?_eq_none (by rw [nums_size]; omega)
    rw [h1, h2]
    by_cases e : x = i
    · subst e; simp [nums_size, hi]
    · simp [e]

/-- Which sets have the byte, as numbers. -/
def marksN (L : List (Nat → Bool)) (b : Nat) : List Int := L.map fun S => if S b then 1 else 0
theorem marksN_length (L : List (Nat → Bool)) (b : Nat) : (marksN L b).length = L.length := by simp [marksN]
theorem marksN_get (L : List (Nat → Bool)) (b i : Nat) (hi : i < L.length) : (marksN L b).getD i 0 = if L.getD i no b then 1 else 0 := by simp [marksN, List.getD, hi]
/-- The first k of them, noted. -/
def markTo (L : List (Nat → Bool)) (b k : Nat) : Nat → Int := fun i => if i < k ∧ L.getD i no b = true then 1 else 0
theorem markTo_t (L : List (Nat → Bool)) (b k : Nat) (h : L.getD k no b = true) : markTo L b (k + 1) = fun i => if i = k then 1 else markTo L b k i := by
  funext i
  unfold markTo
  by_cases e : i = k
  · subst e; simp only [h]; simp
  · have : (i < k + 1) = (i < k) := by apply propext; omega
    simp only [this, if_neg e]
theorem markTo_f (L : List (Nat → Bool)) (b k : Nat) (h : L.getD k no b = false) : markTo L b (k + 1) = markTo L b k := by
  funext i
  unfold markTo
  by_cases e : i = k
  · subst e; simp only [h]; simp
  · have : (i < k + 1) = (i < k) := by apply propext; omega
    simp only [this]

theorem info_byte' : (Tryd.prog.info? 5).map (fun i => (i.zero, i.size, i.bytes)) = some (some (.int .u8 0), 1, 1) := by kernel_rfl
theorem make_bytes (n : Nat) (hn : n ≤ 1099511627776) (w : World) : (Instr.makeSlice 52 (.int .i64 (n : Int)) (.int .i64 (n : Int))).run Tryd.prog w = .ok (.slice (some ⟨w.heap.size, 0, none⟩) n n) (w.alloc (.cells (nums .u8 n fun _ => 0) 5)) := by
  obtain ⟨i0, hi, hz0, hz1, hz2⟩ := info_parts info_byte'
  have := run_make (P := Tryd.prog) w 52 5 i0 (.int .u8 0) Tryd.underlying52 hi hz0 .i64 .i64 (n : Int) (n : Int) (by omega) (by omega) (by rw [hz2]; omega) (by omega)
  rw [this]
  have e : madeCells (Value.int .u8 0).cells ((n : Int).toNat * i0.size) = nums .u8 n fun _ => 0 := by
    rw [hz1, Int.toNat_natCast, Nat.mul_one]; exact nums_made _ _
  rw [e]
  rfl

set_option maxRecDepth 100000 in
set_option maxHeartbeats 1000000 in
theorem marks_any (ao : Option Addr) (len cap : Nat) (L : List (Nat → Bool)) (hl : L.length = len) (hlen : len ≤ 1099511627776) (b : Nat) (hb : b ≤ 255) (w : World) (hS : SAt w ao L w.heap.size) :
    Calls Tryd.prog 21 #[.slice ao len cap, .int .u8 (b : Int)] w fun e w' => e = .returned (.string (strOfNums (marksN L b))) ∧ Below w.heap.size w w' := by
  have HL := Lib.hid hl
  have HS := Lib.hid hS
  have hmk := make_bytes len hlen
  clear hl hS
  go_enter Tryd.func21, Tryd.ntmps21
  go_wp2
  go_loopw [13] (fun i wr => ∃ k : Nat, k ≤ len ∧ i = .int .i64 k ∧ Blk wr w.heap.size 5 (nums .u8 len (markTo L b k)) ∧ Below w.heap.size w wr)
    (fun i _ => len - (intOf i).toNat)
  case atStart => exact ⟨0, Nat.zero_le _, rfl, by have e : nums .u8 len (markTo L b 0) = nums .u8 len fun _ => 0 := nums_ext fun i _ => by simp [markTo]
                                                   rw [e]; exact Blk.new _ _ _, bal (Below.refl _ _) _⟩
  case round =>
    obtain ⟨k, hk, rfl, hM, hB⟩ := hrel
    by_cases hlt : k < len
    · obtain ⟨g, off, rfl, hg, hc⟩ := HS.out (by rw [HL.out]; omega)
      obtain ⟨c0, c1, c2, c3⟩ := (hc k (by rw [HL.out]; exact hlt)).below hB hg
      have HT := Lib.hid (markTo_t L b k)
      have HF := Lib.hid (markTo_f L b k)
      clear hc
      generalize L.getD k no = S at c0 c1 c2 c3 HT HF
      have hlti : (k : Int) < (len : Int) := by omega
      go_wp2_with fail
      refine (has_any S b hb _).mono ?_
      rintro e w1 ⟨rfl, hb1⟩
      have hB1 := btr (bal hB _) hb1
      have hM1 := (hM.alloc (.cells (cells4 S) 35)).below hb1 (by simp; have := hM.lt; omega)
      clear hM hB hb1 c0 c1 c2 c3
      cases hf : S b with
      | true =>
        have e := HT.out hf
        have h1 := hM1.set k (.int .u8 1)
        rw [nums_set, ← e] at h1
        have hs := (hM1.cell k).trans (nums_get _ _ _ k hlt)
        have hsf := hM1.frozen k
        clear hf HT HF e
        go_wp2
        go_roundw
        case rel => exact ⟨k + 1, by omega, by go_num, h1, hB1.setCell (by simp) _⟩
        case measure => simp [intOf]; omega
      | false =>
        have e := HF.out hf
        rw [← e] at hM1
        clear hf HT HF e
        go_wp2
        go_roundw
        case rel => exact ⟨k + 1, by omega, by go_num, hM1, hB1⟩
        case measure => simp [intOf]; omega
    · obtain rfl : k = len := by omega
      have hcv := run_convert_bytes_arg (P := Tryd.prog) wr 52 5 Tryd.underlying52 Tryd.underlying5 w.heap.size 0 k k (marksN L b) (by rw [marksN_length]; exact HL.out) (fun i hi => by
        rw [Nat.zero_add, hM.cell, nums_get _ _ _ i hi, marksN_get L b i (by rw [HL.out]; exact hi)]
        simp only [markTo, hi, true_and]) 9 Tryd.underlying9
      clear hM
      go_wp2
      go_ret
      exact ⟨rfl, hB⟩
end Go.Proofs.YtjfjfbefhdabeaaDoor
