/-
  Walks of the reference's Of and Span: the set of the bytes, the set from one byte to another one; nothing that was there before the call has changed. Conditions: bytes up to 255, at most 2^47 of them.
-/
import Derived.Test.YtanpammidlphbaaDoorSetRef1
import Derived.Test.YtanpammidlphbaaDoorSetOf
import Derived.Laws.MakeOwn
namespace Go.Proofs.YtanpammidlphbaaDoor
open Go.RowKit

/-- A row of 256 truth values. -/
def bools (f : Nat → Bool) : Array Value := (Array.range 256).map fun i => Value.bool (f i)
theorem bools_size (f : Nat → Bool) : (bools f).size = 256 := by simp [bools]
theorem bools_get (f : Nat → Bool) (k : Nat) (hk : k < 256) : (bools f)[k]? = some (.bool (f k)) := by
  unfold bools
  rw [Array.getElem?_map, Array.getElem?_range]
  simp [hk]
theorem bools_made : madeCells #[Value.bool false] 256 = bools fun _ => false := by
  unfold madeCells bools
  congr 1
  funext i
  show #[Value.bool false][i % 1]! = _
  rw [Nat.mod_one]
  rfl
theorem bools_upd (f : Nat → Bool) (x : Nat) (hx : x < 256) : (bools f).setIfInBounds x (.bool true) = bools (upd f x) := by
  apply Array.ext_getElem?
  intro i
  rw [Array.getElem?_setIfInBounds]
  by_cases hi : i < 256
  · rw [bools_get _ _ hi, bools_get _ _ hi]
    by_cases e : x = i
    · subst e; simp [bools_size, hx, upd]
    · have : (i == x) = false := by simp; omega
      simp [e, upd, this]
  · have h1 : (bools f)[i]? = none := Array.getElem?_eq_none (by rw [bools_size]; omega)
    have h2 : (bools (upd f x))[i]? = none := Array.getElem?_eq_none (by rw [bools_size]; omega)
    rw [h1, h2]
    have : x ≠ i := by omega
    simp [this]

theorem info_bool : (Tryd.prog.info? 4).map (fun i => (i.zero, i.size, i.bytes)) = some (some (.bool false), 1, 1) := by kernel_rfl
theorem make_bools (w : World) : (Instr.makeSlice 46 (.int .i64 256) (.int .i64 256)).run Tryd.prog w = .ok (.slice (some ⟨w.heap.size, 0, none⟩) 256 256) (w.alloc (.cells (bools fun _ => false) 4)) := by
  obtain ⟨i0, hi, hz0, hz1, hz2⟩ := info_parts info_bool
  have := run_make (P := Tryd.prog) w 46 4 i0 (.bool false) Tryd.underlying46 hi hz0 .i64 .i64 256 256 (by decide) (by decide) (by rw [hz2]; decide) (by decide)
  rw [this]
  have e : madeCells (Value.bool false).cells ((256 : Int).toNat * i0.size) = bools fun _ => false := by
    rw [hz1]; exact bools_made
  rw [e]
  rfl

set_option maxRecDepth 100000 in
set_option maxHeartbeats 1000000 in
theorem refof_any (ao : Option Addr) (len cap : Nat) (zs : List Nat) (hl : zs.length = len) (hlen : len ≤ 140737488355328) (hz : ∀ z ∈ zs, z ≤ 255) (w : World)
    (hc : 0 < len → ∃ b off, ao = some ⟨b, off, none⟩ ∧ ∀ i, i < len → w.cell? ⟨b, off + i, none⟩ = some (.int .u8 ((zs.getD i 0 : Nat) : Int))) :
    Calls Tryd.prog 9 #[.slice ao len cap] w fun e w' => e = .returned (sv (ofL zs)) ∧ Below w.heap.size w w' := by
  have HL := Lib.hid hl
  have HZ := Lib.hid hz
  have HC := Lib.hid hc
  clear hl hz hc
  have hmk := make_bools
  go_enter Tryd.func9, Tryd.ntmps9
  go_wp2
  clear hmk
  go_loopw [4] (fun i wr => ∃ k : Nat, k ≤ len ∧ i = .int .i64 k ∧ Blk wr (w.heap.size + 1) 4 (bools (ofL (zs.take k))) ∧ Blk wr w.heap.size 25 zero4 ∧ Below w.heap.size w wr)
    (fun i _ => len - (intOf i).toNat)
  case atStart => exact ⟨0, Nat.zero_le _, rfl, by rw [List.take_zero, ofL_nil]; have := Blk.new (w.alloc (.cells zero4 25)) 4 (bools fun _ => false); rwa [World.size_alloc] at this, (Blk.new w 25 zero4).alloc _, bal (bal (Below.refl _ _) _) _⟩
  case round =>
    obtain ⟨k, hk, rfl, hS, hR, hB⟩ := hrel
    by_cases hlt : k < len
    · obtain ⟨b, off, rfl, hcell⟩ := HC.out (by omega)
      have hx := HZ.out (zs.getD k 0) (by rw [List.getD, List.getElem?_eq_getElem (by rw [HL.out]; exact hlt)]; simp)
      have HT := Lib.hid (ofL_take zs k (by rw [HL.out]; exact hlt))
      have hck := hcell k hlt
      have hb : b < w.heap.size := by
        rcases Nat.lt_or_ge b w.heap.size with h | h
        · exact h
        · simp [World.cell?, Array.getElem?_eq_none h] at hck
      have hckr := (hB.cell (p := ⟨b, off + k, none⟩) hb).trans hck
      clear hcell hck
      generalize zs.getD k 0 = x at hx HT hckr
      have hs := (hS.cell x).trans (bools_get _ x (by omega))
      have hsf := hS.frozen x
      go_wp2
      go_roundw
      case rel => exact ⟨k + 1, by omega, by go_num, by rw [HT.out, ← bools_upd _ x (by omega)]; exact hS.set x _, hR.other _ _ (by simp), hB.setCell (by simp) _⟩
      case measure => simp [intOf]; omega
    · obtain rfl : k = len := by omega
      have HE := Lib.hid (show zs.take k = zs by rw [← HL.out]; exact List.take_length)
      have hmake := make_any (ofL (zs.take k)) (w.heap.size + 1) wr (fun i hi => (hS.cell i).trans (bools_get _ i hi))
      have HM := Lib.hid hmake
      clear hmake
      go_wp2_with fail
      refine HM.out.mono ?_
      rintro e w2 ⟨rfl, hb2⟩
      have hR2 := hR.below hb2 hR.lt
      have hB2 := btr hB hb2
      have r0 := hR2.cell 0
      have r1 := hR2.cell 1
      have r2 := hR2.cell 2
      have r3 := hR2.cell 3
      have f0 := hR2.frozen 0
      have f1 := hR2.frozen 1
      have f2 := hR2.frozen 2
      have f3 := hR2.frozen 3
      go_wp2
      refine bodyPost_ret (v := sv (ofL (zs.take k))) (by simp [results, Tryd.results9, go_sem, *]) rfl ⟨by rw [HE.out], ?_⟩
      repeat (first | exact hB2 | refine Below.setCell ?_ (by simp) _)

set_option maxRecDepth 100000 in
set_option maxHeartbeats 1000000 in
theorem refspan_any (a z : Nat) (ha : a ≤ 255) (hz : z ≤ 255) (w : World) :
    Calls Tryd.prog 11 #[.int .u8 a, .int .u8 z] w fun e w' => e = .returned (sv (fromTo a (z + 1))) ∧ Below w.heap.size w w' := by
  have hmk := make_bools
  go_enter Tryd.func11, Tryd.ntmps11
  go_wp2
  clear hmk
  go_loopw [6] (fun i wr => ∃ k : Nat, a ≤ k ∧ k ≤ 256 ∧ (k ≤ z + 1 ∨ k = a) ∧ i = .int .i64 k ∧ Blk wr (w.heap.size + 1) 4 (bools (fromTo a k)) ∧ Blk wr w.heap.size 25 zero4 ∧ Below w.heap.size w wr)
    (fun i _ => 256 - (intOf i).toNat)
  case atStart => exact ⟨a, Nat.le_refl _, by omega, .inr rfl, rfl, by rw [fromTo_nil]; have := Blk.new (w.alloc (.cells zero4 25)) 4 (bools fun _ => false); rwa [World.size_alloc] at this, (Blk.new w 25 zero4).alloc _, bal (bal (Below.refl _ _) _) _⟩
  case round =>
    obtain ⟨k, hak, hk, hk2, rfl, hS, hR, hB⟩ := hrel
    have HK := Lib.hid hk2
    clear hk2
    by_cases hlt : k ≤ z
    · have HT := Lib.hid (fromTo_snoc a k hak)
      have hs := (hS.cell k).trans (bools_get _ k (by omega))
      have hsf := hS.frozen k
      go_wp2
      go_roundw
      case rel => exact ⟨k + 1, by omega, by omega, .inl (by omega), by go_num, by rw [HT.out, ← bools_upd _ k (by omega)]; exact hS.set k _, hR.other _ _ (by simp), hB.setCell (by simp) _⟩
      case measure => simp [intOf]; omega
    · have HE := Lib.hid (show sv (fromTo a k) = sv (fromTo a (z + 1)) by
        have h := HK.out
        by_cases e : k = z + 1
        · rw [e]
        · apply sv_ext; intro i _; unfold fromTo; rw [Bool.eq_iff_iff]; simp only [Bool.and_eq_true, decide_eq_true_eq]; omega)
      have hmake := make_any (fromTo a k) (w.heap.size + 1) wr (fun i hi => (hS.cell i).trans (bools_get _ i hi))
      have HM := Lib.hid hmake
      clear hmake
      go_wp2_with fail
      refine HM.out.mono ?_
      rintro e w2 ⟨rfl, hb2⟩
      have hR2 := hR.below hb2 hR.lt
      have hB2 := btr hB hb2
      have r0 := hR2.cell 0
      have r1 := hR2.cell 1
      have r2 := hR2.cell 2
      have r3 := hR2.cell 3
      have f0 := hR2.frozen 0
      have f1 := hR2.frozen 1
      have f2 := hR2.frozen 2
      have f3 := hR2.frozen 3
      go_wp2
      refine bodyPost_ret (v := sv (fromTo a k)) (by simp [results, Tryd.results11, go_sem, *]) rfl ⟨by rw [HE.out], ?_⟩
      repeat (first | exact hB2 | refine Below.setCell ?_ (by simp) _)
end Go.Proofs.YtanpammidlphbaaDoor
