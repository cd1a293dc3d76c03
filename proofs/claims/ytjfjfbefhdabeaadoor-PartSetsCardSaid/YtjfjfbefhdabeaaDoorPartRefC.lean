/-
  The walk of the reference's classes: of each byte its class, in a new slice; nothing that was there before the call has changed. Conditions: the sets lie in memory as a slice, fewer than 2^40 of them.
-/
import Derived.Test.YtjfjfbefhdabeaaDoorPartRefA
import Derived.Test.YtjfjfbefhdabeaaDoorPartMap
namespace Go.Proofs.YtjfjfbefhdabeaaDoor
open Go.RowKit

theorem make_ints (w : World) : (Instr.makeSlice 26 (.int .i64 256) (.int .i64 256)).run Tryd.prog w = .ok (.slice (some ⟨w.heap.size, 0, none⟩) 256 256) (w.alloc (.cells (nums .i64 256 fun _ => 0) 3)) := by
  obtain ⟨i0, hi, hz0, hz1, hz2⟩ := info_parts info_int
  have := run_make (P := Tryd.prog) w 26 3 i0 (.int .i64 0) Tryd.underlying26 hi hz0 .i64 .i64 256 256 (by decide) (by decide) (by rw [hz2]; decide) (by decide)
  rw [this]
  have e : madeCells (Value.int .i64 0).cells ((256 : Int).toNat * i0.size) = nums .i64 256 fun _ => 0 := by
    rw [hz1]; exact nums_made _ _
  rw [e]
  rfl

/-- The classes of the bytes below k. -/
def clsTo (L : List (Nat → Bool)) (k : Nat) : Nat → Int := fun i => if i < k then ((cls L i : Nat) : Int) else 0
theorem clsTo_step (L : List (Nat → Bool)) (k : Nat) : clsTo L (k + 1) = fun i => if i = k then ((cls L k : Nat) : Int) else clsTo L k i := by
  funext i
  unfold clsTo
  by_cases e : i = k
  · subst e; simp
  · have : (i < k + 1) = (i < k) := by apply propext; omega
    simp only [this, if_neg e]
abbrev repCells (l : List Nat) : List Value := l.map fun r : Nat => Value.int .i64 (r : Int)
/-- The least place from j on that is alike to the byte. -/
def lst (L : List (Nat → Bool)) (l : List Nat) (b j : Nat) : Nat := j + (l.drop j).findIdx fun r => alk L r b
theorem lst_end (L : List (Nat → Bool)) (l : List Nat) (b : Nat) : lst L l b l.length = l.length := by simp [lst]
theorem lst_t (L : List (Nat → Bool)) (l : List Nat) (b j : Nat) (h : j < l.length) (e : alk L (l.getD j 0) b = true) : lst L l b j = j := by
  unfold lst
  rw [List.drop_eq_getElem_cons h, List.findIdx_cons]
  rw [List.getD, List.getElem?_eq_getElem h] at e
  simp at e
  simp [e]
theorem lst_f (L : List (Nat → Bool)) (l : List Nat) (b j : Nat) (h : j < l.length) (e : alk L (l.getD j 0) b = false) : lst L l b j = lst L l b (j + 1) := by
  unfold lst
  rw [List.drop_eq_getElem_cons h, List.findIdx_cons]
  rw [List.getD, List.getElem?_eq_getElem h] at e
  simp at e
  simp [e]
  omega

theorem owns_setLow {w : World} {base : Nat} {e : TypeId} {size n : Nat} {v : Value} {xs : List Value} (h : w.ownsRow base e size v n xs) {a : Addr} (ha : a.block < base) (u : Value) : (w.setCell a u).ownsRow base e size v n xs :=
  ownsRow_setCell_other h (fun e => by have := h.lt _ e; omega) u

set_option maxRecDepth 100000 in
set_option maxHeartbeats 4000000 in
theorem refclasses_any (ao : Option Addr) (len cap : Nat) (L : List (Nat → Bool)) (hl : L.length = len) (hlen : len ≤ 1099511627776) (w : World) (hS : SAt w ao L w.heap.size) :
    Calls Tryd.prog 23 #[.slice ao len cap] w fun e w' => e = .returned (.slice (some ⟨w.heap.size, 0, none⟩) 256 256) ∧ Blk w' w.heap.size 3 (nums .i64 256 fun i => ((cls L i : Nat) : Int)) ∧ Below w.heap.size w w' := by
  obtain ⟨i0, hi, hz0, hz1, hz2⟩ := info_parts info_int
  have HL := Lib.hid hl
  have HS := Lib.hid hS
  have hmk := make_ints
  clear hl hS
  go_enter Tryd.func23, Tryd.ntmps23
  go_wp2
  go_loopw [4, 5] (fun v i wr => ∃ k : Nat, k ≤ 256 ∧ i = .int .i64 k ∧ wr.ownsRow (w.heap.size + 1) 3 1 v (reps L k).length (repCells (reps L k)) ∧ Blk wr w.heap.size 3 (nums .i64 256 (clsTo L k)) ∧ Below w.heap.size w wr)
    (fun _ i _ => 256 - (intOf i).toNat)
  case atStart => exact ⟨0, by decide, rfl, World.ownsRow_nil _ _ _ _, Blk.new _ _ _, bal (Below.refl _ _) _⟩
  case round =>
    obtain ⟨k, hk, rfl, hown, hM, hB⟩ := hrel
    by_cases hlt : k < 256
    · have hnk : (reps L k).length ≤ k := by rw [← nx_cls]; exact nx_le _ _ (cls_rgs L k)
      have hrep := Lib.hid (reps_spec L k).2.2
      have hold := Lib.hid (reps_old (L := L) (n := k))
      have hnew := Lib.hid (reps_new (L := L) (n := k))
      have hcl := Lib.hid (show cls L k = lst L (reps L k) k 0 by simp [lst, cls])
      have hle := cls_le L k
      have hstp := Lib.hid (clsTo_step L k)
      generalize hl0 : reps L k = l at *
      clear hl0
      obtain ⟨n, hn⟩ : ∃ n, l.length = n := ⟨_, rfl⟩
      have HN := Lib.hid hn
      rw [hn] at hown hnk hle hold hnew
      clear hn
      generalize hc0 : cls L k = c at *
      clear hc0
      obtain ⟨po, pc, rfl⟩ := owns_slice hown
      have hsz0 := hM.lt
      have hlti : (k : Int) < 256 := by omega
      generalize wr = wo at *
      go_wp2
      go_loopw [6, 7] (fun a z wi => ∃ (j : Nat) (y : Int), y + 1 = (j : Int) ∧ j ≤ n ∧ z = .int .i64 y ∧ a = .int .i64 ((lst L l k j : Nat) : Int) ∧ Below wo.heap.size wo wi)
        (fun _ z _ => (intOf z + 1).toNat)
      case atStart => exact ⟨n, (n : Int) - 1, by omega, Nat.le_refl _, by go_num, by rw [← HN.out, lst_end], Below.refl _ _⟩
      case round =>
        obtain ⟨j, y, hy, hj, rfl, rfl, hbi⟩ := hrel
        by_cases hj0 : j = 0
        · subst hj0
          obtain rfl : y = -1 := by omega
          have hown1 := owns_below hown hbi
          have hM1 := hM.below hbi hM.lt
          have hB1 := btr hB hbi
          have hsz1 : w.heap.size + 1 ≤ wr.heap.size := hM1.lt
          rw [← hcl.out]
          clear hown hM hB hbi
          by_cases hcn : c = n
          · have hreps := Lib.hid (hnew.out (by omega))
            subst hcn
            go_wp2_with (first | (at_builtin; refine wpList_append_own _ rfl _ _ 26 rfl (w.heap.size + 1) 3 i0 (.int .i64 0) 1 8 Tryd.underlying26 hi hz0 hz1 hz2 rfl (by decide) _ _ _ rfl (hown1.alloc _) ⟨wr.heap.size, 0, none⟩ 1 1 [.int .i64 (k : Int)] rfl rfl (cell_one_new _ _ _) (by simp [Value.oneCell']) (by unfold maxLen; omega) (by omega) (by simp; omega) ?_; intro v' w3 hown3 hg3 _; have hlow := grown_low _ hown1 hsz1 hg3; have hM3 := hM1.below hlow (by omega); have hs := (hM3.cell k).trans (nums_get _ _ _ k hlt); have hsf := hM3.frozen k) | fail)
            have hB3 := hB1.trans (hlow.mono (by omega))
            have h1 := hM3.set k (.int .i64 (c : Int))
            rw [nums_set, ← hstp.out] at h1
            have e4 : repCells l ++ [.int .i64 (k : Int)] = repCells (l ++ [k]) := by simp [repCells]
            rw [e4] at hown3
            clear hs hsf
            go_roundw
            case rel => exact ⟨k + 1, by omega, by go_num, by rw [hreps.out, List.length_append, HN.out]; exact owns_setLow hown3 (by simp) _, h1, hB3.setCell (by simp) _⟩
            case measure => simp [intOf]; omega
          · have hd : ((c : Int) == (n : Int)) = false := by simp; omega
            have hreps := Lib.hid (hold.out (by omega))
            have hs := (hM1.cell k).trans (nums_get _ _ _ k hlt)
            have hsf := hM1.frozen k
            have h1 := hM1.set k (.int .i64 (c : Int))
            rw [nums_set, ← hstp.out] at h1
            go_wp2
            clear hs hsf
            go_roundw
            case rel => exact ⟨k + 1, by omega, by go_num, by rw [hreps.out, HN.out]; exact owns_setLow hown1 (by simp) _, h1, hB1.setCell (by simp) _⟩
            case measure => simp [intOf]; omega
        · obtain ⟨j', rfl⟩ : ∃ j', j = j' + 1 := ⟨j - 1, by omega⟩
          obtain rfl : y = (j' : Int) := by omega
          have hown1 := owns_below hown hbi
          obtain ⟨g, cp, e, hgb, hgl⟩ := hown1.form (by omega)
          simp only [Value.slice.injEq] at e
          obtain ⟨rfl, -, rfl⟩ := e
          have hx := hrep.out j' (by rw [HN.out]; omega)
          have hcx := hown1.cellAt j' (by omega)
          have hxv : (repCells l)[j']? = some (.int .i64 ((l.getD j' 0 : Nat) : Int)) := by
            have : j' < l.length := by rw [HN.out]; omega
            simp [repCells, List.getD, this]
          rw [hxv] at hcx
          have hlt1 := Lib.hid (lst_t L l k j' (by rw [HN.out]; omega))
          have hlf1 := Lib.hid (lst_f L l k j' (by rw [HN.out]; omega))
          have hS1 : SAt wr ao L wr.heap.size := (HS.out.below (btr hB hbi) (Nat.le_refl _)).mono (btr hB hbi).size
          clear hxv hown1
          generalize l.getD j' 0 = x at hx hcx hlt1 hlf1
          have hj1 : (j' : Int) < (n : Int) := by omega
          go_wp2_with fail
          refine (alike_any ao len cap L HL.out hlen x k (by omega) (by omega) wr hS1).mono ?_
          cases hxk : alk L x k with
          | true =>
            have HE := Lib.hid (hlt1.out hxk)
            rintro e w2 ⟨rfl, hb2⟩
            have hb3 := btr hbi hb2
            clear hbi hb2 hcx hlt1 hlf1 hxk hS1
            go_wp2
            go_roundw
            case rel => exact ⟨j', (j' : Int) - 1, by omega, by omega, by go_num, by rw [HE.out], hb3⟩
            case measure => simp [intOf]
          | false =>
            have HE := Lib.hid (hlf1.out hxk)
            rintro e w2 ⟨rfl, hb2⟩
            have hb3 := btr hbi hb2
            clear hbi hb2 hcx hlt1 hlf1 hxk hS1
            go_wp2
            go_roundw
            case rel => exact ⟨j', (j' : Int) - 1, by omega, by omega, by go_num, by rw [HE.out], hb3⟩
            case measure => simp [intOf]
    · obtain rfl : k = 256 := by omega
      have hM' : Blk wr w.heap.size 3 (nums .i64 256 fun i => ((cls L i : Nat) : Int)) := by
        rw [← nums_ext (f := clsTo L 256) (g := fun i => ((cls L i : Nat) : Int)) (fun i hi => by simp [clsTo, hi])]
        exact hM
      have HM := Lib.hid hM'
      clear hM' hM hown
      go_wp2
      go_ret
      exact ⟨rfl, HM.out, hB⟩
end Go.Proofs.YtjfjfbefhdabeaaDoor
