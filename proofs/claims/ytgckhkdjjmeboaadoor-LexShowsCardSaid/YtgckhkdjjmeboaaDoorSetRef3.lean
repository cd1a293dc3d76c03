/-
  Walks of the reference's Bytes and By: the bytes of a set in a new slice, rising; both, any, less, not, byte by byte; nothing that was there before the call has changed. Conditions: the way asked for is 0, 1, 2 or 3.
-/
import Derived.Test.YtgckhkdjjmeboaaDoorSetRef2
import Derived.Test.YtgckhkdjjmeboaaDoorSetRef3Math
import Derived.Maps.AppendAt
namespace Go.Proofs.YtgckhkdjjmeboaaDoor
open Go.RowKit

def byteCells (l : List Nat) : List Value := l.map fun n : Nat => Value.int .u8 (n : Int)
theorem byteCells_snoc (l : List Nat) (n : Nat) : byteCells (l ++ [n]) = byteCells l ++ [.int .u8 (n : Int)] := by simp [byteCells]
theorem info_byte : (Tryd.prog.info? 5).map (fun i => (i.zero, i.size, i.bytes)) = some (some (.int .u8 0), 1, 1) := by kernel_rfl

/-- v is a slice of these bytes. -/
def BS (W : World) (v : Value) (l : List Nat) : Prop :=
  ∃ ao cap, v = .slice ao l.length cap ∧ (0 < l.length → ∃ g, ao = some ⟨g, 0, none⟩ ∧ g < W.heap.size ∧ ∀ i, i < l.length → W.cell? ⟨g, i, none⟩ = some (.int .u8 ((l.getD i 0 : Nat) : Int)))
theorem BS.of_owns {W : World} {base : Nat} {v : Value} {l : List Nat} (h : W.ownsRow base 5 1 v l.length (byteCells l)) : BS W v l := by
  obtain ⟨hl, h⟩ := h
  rcases h with ⟨rfl, h0⟩ | ⟨g, cap, cur, rfl, _, hb, hn, _, hsz, ht⟩
  · exact ⟨none, 0, by rw [h0], fun h => by omega⟩
  · refine ⟨_, cap, rfl, fun _ => ⟨g, rfl, lt_of_block hb, fun i hi => ?_⟩⟩
    have : W.cell? ⟨g, i, none⟩ = cur[i]? := by simp [World.cell?, hb]
    rw [this]
    have h2 : cur[i]? = (byteCells l)[i]? := by
      rw [← ht, List.getElem?_take_of_lt (by omega)]
      simp
    rw [h2]
    unfold byteCells
    rw [List.getElem?_map, List.getElem?_eq_getElem hi]
    simp [List.getD, hi]
theorem BS.below {W W' : World} {v : Value} {l : List Nat} (h : BS W v l) (hb : Below W.heap.size W W') : BS W' v l := by
  obtain ⟨ao, cap, hv, h⟩ := h
  refine ⟨ao, cap, hv, fun hp => ?_⟩
  obtain ⟨g, hg, hlt, hc⟩ := h hp
  exact ⟨g, hg, Nat.lt_of_lt_of_le hlt hb.size, fun i hi => (hb.cell (p := ⟨g, _, none⟩) hlt).trans (hc i hi)⟩

theorem owns_below {w w' : World} {base : Nat} {e : TypeId} {size n : Nat} {v : Value} {xs : List Value} (h : w.ownsRow base e size v n xs) (hb : Below w.heap.size w w') : w'.ownsRow base e size v n xs :=
  h.kept (row := none) ⟨hb.os, hb.tape, hb.output, hb.size, fun k hk _ => hb.block k hk⟩ (Classical.em _)
/-- What an append to a row of the call's own, from base on, leaves below base. -/
theorem grown_low {W w1 : World} {base : Nat} {e : TypeId} {size n : Nat} {v : Value} {xs : List Value} (o : Obj) (h : W.ownsRow base e size v n xs) (hbase : base ≤ W.heap.size) (hg : (W.alloc o).grownBy w1 v.ownBlock) : Below base W w1 := by
  refine ((Below.refl base W).alloc hbase o).grown hg (by simp; omega) fun j ej => ?_
  rcases h.2 with ⟨rfl, _⟩ | ⟨g, cap, cur, rfl, hb, _, _⟩
  · simp [Value.ownBlock] at ej
  · obtain rfl : g = j := by simpa [Value.ownBlock] using ej
    exact hb

set_option maxRecDepth 100000 in
set_option maxHeartbeats 1000000 in
theorem bytes_any (S : Nat → Bool) (w : World) :
    Calls Tryd.prog 19 #[sv S] w fun e w' => ∃ v, e = .returned v ∧ BS w' v (bytesTo S 256) ∧ Below w.heap.size w w' := by
  obtain ⟨i0, hi, hz0, hz1, hz2⟩ := info_parts info_byte
  go_enter Tryd.func19, Tryd.ntmps19
  go_wp2
  go_loopw [3, 4] (fun v i wr => ∃ k : Nat, k ≤ 256 ∧ i = .int .i64 k ∧ wr.ownsRow (w.heap.size + 1) 5 1 v (bytesTo S k).length (byteCells (bytesTo S k)) ∧ Blk wr w.heap.size 24 (cells4 S) ∧ Below w.heap.size w wr)
    (fun _ i _ => 256 - (intOf i).toNat)
  case atStart => exact ⟨0, by decide, rfl, World.ownsRow_nil _ _ _ _, Blk.new _ _ _, bal (Below.refl _ _) _⟩
  case round =>
    obtain ⟨k, hk, rfl, hown, hS, hB⟩ := hrel
    have hlen := bytesTo_length S k
    by_cases hlt : k < 256
    · obtain ⟨c0, c1, c2, c3⟩ := hS.cells
      cases hf : S k with
      | false =>
        have HT := Lib.hid (bytesTo_f S k hf)
        go_wp2_with fail
        refine (refhas_any S k (by omega) wr).mono ?_
        rw [hf]
        rintro e w2 ⟨rfl, hb2⟩
        clear c0 c1 c2 c3 hf
        have hS2 := hS.below hb2 hS.lt
        have hown2 := owns_below hown hb2
        have hB2 := btr hB hb2
        go_wp2
        go_roundw
        case rel => exact ⟨k + 1, by omega, by go_num, by rw [HT.out]; exact hown2, hS2, hB2⟩
        case measure => simp [intOf]; omega
      | true =>
        have HT := Lib.hid (bytesTo_t S k hf)
        go_wp2_with fail
        refine (refhas_any S k (by omega) wr).mono ?_
        rw [hf]
        rintro e w2 ⟨rfl, hb2⟩
        clear c0 c1 c2 c3 hf
        have hS2 := hS.below hb2 hS.lt
        have hown2 := owns_below hown hb2
        have hB2 := btr hB hb2
        have hsz : w.heap.size + 1 ≤ w2.heap.size := hS2.lt
        clear hown hS hB hb2
        go_wp2_with (at_builtin; refine wpList_append_own _ rfl _ _ 40 rfl (w.heap.size + 1) 5 i0 (.int .u8 0) 1 1 Tryd.underlying40 hi hz0 hz1 hz2 rfl (by decide) _ _ _ rfl (hown2.alloc _) ⟨w2.heap.size, 0, none⟩ 1 1 [.int .u8 (k : Int)] rfl rfl (cell_one_new _ _ _) (by simp [Value.oneCell']) (by unfold maxLen; omega) (by omega) (by simp; omega) ?_; intro v' w3 hown3 hgrow _)
        have hlow := grown_low _ hown2 hsz hgrow
        have hS3 := hS2.below hlow (by omega)
        have hB3 := hB2.trans (hlow.mono (by omega))
        go_roundw
        case rel => exact ⟨k + 1, by omega, by go_num, by rw [HT.out, List.length_append, byteCells_snoc]; exact hown3, hS3, hB3⟩
        case measure => simp [intOf]; omega
    · obtain rfl : k = 256 := by omega
      have hbs := Lib.hid (BS.of_owns hown)
      clear hown
      go_wp2
      go_ret
      exact ⟨_, rfl, hbs.out, hB⟩
/-- A round of By: the truth value of byte k is laid. -/
theorem by_step (f : Nat → Bool) (k : Nat) : bools (under f (k + 1)) = (bools (under f k)).setIfInBounds k (.bool (f k)) := by
  apply Array.ext_getElem?
  intro i
  rw [Array.getElem?_setIfInBounds]
  by_cases hi : i < 256
  · rw [bools_get _ _ hi, bools_get _ _ hi]
    by_cases e : k = i
    · subst e; simp [bools_size, hi, under]
    · have : (i < k + 1) = (i < k) := by apply propext; omega
      simp [e, under, this]
  · have h1 : (bools (under f (k + 1)))[i]? = none := Array.getElem?_eq_none (by rw [bools_size]; omega)
    have h2 : (bools (under f k))[i]? = none := Array.getElem?_eq_none (by rw [bools_size]; omega)
    rw [h1, h2]
    by_cases e : k = i
    · subst e; simp [bools_size, hi]
    · simp [e]
theorem byStart0 (w : World) (a b c : Obj) (S : Nat → Bool) : Blk ((((w.alloc (.cells (cells4 S) 24)).alloc a).alloc b).alloc c) w.heap.size 24 (cells4 S) := (((Blk.new w 24 (cells4 S)).alloc a).alloc b).alloc c
theorem byStart1 (w : World) (a b c : Obj) (S : Nat → Bool) : Blk ((((w.alloc a).alloc (.cells (cells4 S) 24)).alloc b).alloc c) (w.heap.size + 1) 24 (cells4 S) := by
  have := ((Blk.new (w.alloc a) 24 (cells4 S)).alloc b).alloc c
  rwa [World.size_alloc] at this
theorem byStart2 (w : World) (a b c : Obj) : Blk ((((w.alloc a).alloc b).alloc (.cells zero4 24)).alloc c) (w.heap.size + 2) 24 zero4 := by
  have := (Blk.new ((w.alloc a).alloc b) 24 zero4).alloc c
  rwa [World.size_alloc, World.size_alloc] at this
theorem byStart3 (w : World) (a b c : Obj) (f : Nat → Bool) : Blk ((((w.alloc a).alloc b).alloc c).alloc (.cells (bools fun _ => false) 4)) (w.heap.size + 3) 4 (bools (under f 0)) := by
  have := Blk.new (((w.alloc a).alloc b).alloc c) 4 (bools fun _ => false)
  rw [under_zero]
  rwa [World.size_alloc, World.size_alloc, World.size_alloc] at this

set_option maxRecDepth 100000 in
set_option maxHeartbeats 2000000 in
theorem by0_any (S T : Nat → Bool) (w : World) :
    Calls Tryd.prog 20 #[sv S, sv T, .int .i64 0] w fun e w' => e = .returned (sv (cand S T)) ∧ Below w.heap.size w w' := by
  have hmk := make_bools
  go_enter Tryd.func20, Tryd.ntmps20
  go_wp2
  clear hmk
  go_loopw [8] (fun i wr => ∃ k : Nat, k ≤ 256 ∧ i = .int .i64 k ∧ Blk wr (w.heap.size + 3) 4 (bools (under (cand S T) k)) ∧ Blk wr (w.heap.size + 2) 24 zero4 ∧ Blk wr w.heap.size 24 (cells4 S) ∧ Blk wr (w.heap.size + 1) 24 (cells4 T) ∧ Below w.heap.size w wr)
    (fun i _ => 256 - (intOf i).toNat)
  case atStart => exact ⟨0, by decide, rfl, byStart3 _ _ _ _ _, byStart2 _ _ _ _, byStart0 _ _ _ _ _, byStart1 _ _ _ _ _, bal (bal (bal (bal (Below.refl _ _) _) _) _) _⟩
  case round =>
    obtain ⟨k, hk, rfl, hI, hR, hS, hT, hB⟩ := hrel
    by_cases hlt : k < 256
    · have HF := Lib.hid (by_step (cand S T) k)
      have hv := Lib.hid (show (cand S T) k = (S k && T k) from rfl)
      obtain ⟨c0, c1, c2, c3⟩ := hS.cells
      go_wp2_with fail
      refine (refhas_any S k (by omega) wr).mono ?_
      rintro e w2 ⟨rfl, hb2⟩
      clear c0 c1 c2 c3
      have hI2 := hI.below hb2 hI.lt
      have hR2 := hR.below hb2 hR.lt
      have hS2 := hS.below hb2 hS.lt
      have hT2 := hT.below hb2 hT.lt
      have hB2 := btr hB hb2
      clear hI hR hS hT hB hb2
      obtain ⟨c0, c1, c2, c3⟩ := hT2.cells
      go_wp2_with fail
      refine (refhas_any T k (by omega) w2).mono ?_
      rintro e w3 ⟨rfl, hb3⟩
      clear c0 c1 c2 c3
      have hI3 := hI2.below hb3 hI2.lt
      have hR3 := hR2.below hb3 hR2.lt
      have hS3 := hS2.below hb3 hS2.lt
      have hT3 := hT2.below hb3 hT2.lt
      have hB3 := btr hB2 hb3
      clear hI2 hR2 hS2 hT2 hB2 hb3
      have hs := (hI3.cell k).trans (bools_get _ k (by omega))
      have hsf := hI3.frozen k
      cases hx : S k <;> cases hy : T k <;> rw [hx, hy] at hv
      all_goals
        clear hx hy
        go_wp2
        go_roundw
        case rel => exact ⟨k + 1, by omega, by go_num, by rw [HF.out, hv.out]; exact hI3.set k _, hR3.other _ _ (by dsimp only; omega), hS3.other _ _ (by dsimp only; omega), hT3.other _ _ (by dsimp only; omega), hB3.setCell (by dsimp only; omega) _⟩
        case measure => simp [intOf]; omega
    · obtain rfl : k = 256 := by omega
      have HE := Lib.hid (sv_ext (S := under (cand S T) 256) (T := cand S T) (fun i hi => by simp [under, hi]))
      have HM := Lib.hid (make_any (under (cand S T) 256) (w.heap.size + 3) wr (fun i hi => (hI.cell i).trans (bools_get _ i hi)))
      go_wp2_with fail
      refine HM.out.mono ?_
      rintro e w2 ⟨rfl, hb2⟩
      have hR2 := hR.below hb2 hR.lt
      have hB2 := btr hB hb2
      have r0 := hR2.cell 0
      have r1 := hR2.cell 1
      have r2 := hR2.cell 2
      have r3 := hR2.cell 3
      have f0 := hR2.frozen 0
      have f1 := hR2.frozen 1
      have f2 := hR2.frozen 2
      have f3 := hR2.frozen 3
      go_wp2
      refine bodyPost_ret (v := sv (under (cand S T) 256)) (by simp [results, Tryd.results20, go_sem, *]) rfl ⟨by rw [HE.out], ?_⟩
      repeat (first | exact hB2 | refine Below.setCell ?_ (by dsimp only; omega) _)

set_option maxRecDepth 100000 in
set_option maxHeartbeats 2000000 in
theorem by1_any (S T : Nat → Bool) (w : World) :
    Calls Tryd.prog 20 #[sv S, sv T, .int .i64 1] w fun e w' => e = .returned (sv (cor S T)) ∧ Below w.heap.size w w' := by
  have hmk := make_bools
  go_enter Tryd.func20, Tryd.ntmps20
  go_wp2
  clear hmk
  go_loopw [8] (fun i wr => ∃ k : Nat, k ≤ 256 ∧ i = .int .i64 k ∧ Blk wr (w.heap.size + 3) 4 (bools (under (cor S T) k)) ∧ Blk wr (w.heap.size + 2) 24 zero4 ∧ Blk wr w.heap.size 24 (cells4 S) ∧ Blk wr (w.heap.size + 1) 24 (cells4 T) ∧ Below w.heap.size w wr)
    (fun i _ => 256 - (intOf i).toNat)
  case atStart => exact ⟨0, by decide, rfl, byStart3 _ _ _ _ _, byStart2 _ _ _ _, byStart0 _ _ _ _ _, byStart1 _ _ _ _ _, bal (bal (bal (bal (Below.refl _ _) _) _) _) _⟩
  case round =>
    obtain ⟨k, hk, rfl, hI, hR, hS, hT, hB⟩ := hrel
    by_cases hlt : k < 256
    · have HF := Lib.hid (by_step (cor S T) k)
      have hv := Lib.hid (show (cor S T) k = (S k || T k) from rfl)
      obtain ⟨c0, c1, c2, c3⟩ := hS.cells
      go_wp2_with fail
      refine (refhas_any S k (by omega) wr).mono ?_
      rintro e w2 ⟨rfl, hb2⟩
      clear c0 c1 c2 c3
      have hI2 := hI.below hb2 hI.lt
      have hR2 := hR.below hb2 hR.lt
      have hS2 := hS.below hb2 hS.lt
      have hT2 := hT.below hb2 hT.lt
      have hB2 := btr hB hb2
      clear hI hR hS hT hB hb2
      obtain ⟨c0, c1, c2, c3⟩ := hT2.cells
      go_wp2_with fail
      refine (refhas_any T k (by omega) w2).mono ?_
      rintro e w3 ⟨rfl, hb3⟩
      clear c0 c1 c2 c3
      have hI3 := hI2.below hb3 hI2.lt
      have hR3 := hR2.below hb3 hR2.lt
      have hS3 := hS2.below hb3 hS2.lt
      have hT3 := hT2.below hb3 hT2.lt
      have hB3 := btr hB2 hb3
      clear hI2 hR2 hS2 hT2 hB2 hb3
      have hs := (hI3.cell k).trans (bools_get _ k (by omega))
      have hsf := hI3.frozen k
      cases hx : S k <;> cases hy : T k <;> rw [hx, hy] at hv
      all_goals
        clear hx hy
        go_wp2
        go_roundw
        case rel => exact ⟨k + 1, by omega, by go_num, by rw [HF.out, hv.out]; exact hI3.set k _, hR3.other _ _ (by dsimp only; omega), hS3.other _ _ (by dsimp only; omega), hT3.other _ _ (by dsimp only; omega), hB3.setCell (by dsimp only; omega) _⟩
        case measure => simp [intOf]; omega
    · obtain rfl : k = 256 := by omega
      have HE := Lib.hid (sv_ext (S := under (cor S T) 256) (T := cor S T) (fun i hi => by simp [under, hi]))
      have HM := Lib.hid (make_any (under (cor S T) 256) (w.heap.size + 3) wr (fun i hi => (hI.cell i).trans (bools_get _ i hi)))
      go_wp2_with fail
      refine HM.out.mono ?_
      rintro e w2 ⟨rfl, hb2⟩
      have hR2 := hR.below hb2 hR.lt
      have hB2 := btr hB hb2
      have r0 := hR2.cell 0
      have r1 := hR2.cell 1
      have r2 := hR2.cell 2
      have r3 := hR2.cell 3
      have f0 := hR2.frozen 0
      have f1 := hR2.frozen 1
      have f2 := hR2.frozen 2
      have f3 := hR2.frozen 3
      go_wp2
      refine bodyPost_ret (v := sv (under (cor S T) 256)) (by simp [results, Tryd.results20, go_sem, *]) rfl ⟨by rw [HE.out], ?_⟩
      repeat (first | exact hB2 | refine Below.setCell ?_ (by dsimp only; omega) _)

set_option maxRecDepth 100000 in
set_option maxHeartbeats 2000000 in
theorem by2_any (S T : Nat → Bool) (w : World) :
    Calls Tryd.prog 20 #[sv S, sv T, .int .i64 2] w fun e w' => e = .returned (sv (cless S T)) ∧ Below w.heap.size w w' := by
  have hmk := make_bools
  go_enter Tryd.func20, Tryd.ntmps20
  go_wp2
  clear hmk
  go_loopw [8] (fun i wr => ∃ k : Nat, k ≤ 256 ∧ i = .int .i64 k ∧ Blk wr (w.heap.size + 3) 4 (bools (under (cless S T) k)) ∧ Blk wr (w.heap.size + 2) 24 zero4 ∧ Blk wr w.heap.size 24 (cells4 S) ∧ Blk wr (w.heap.size + 1) 24 (cells4 T) ∧ Below w.heap.size w wr)
    (fun i _ => 256 - (intOf i).toNat)
  case atStart => exact ⟨0, by decide, rfl, byStart3 _ _ _ _ _, byStart2 _ _ _ _, byStart0 _ _ _ _ _, byStart1 _ _ _ _ _, bal (bal (bal (bal (Below.refl _ _) _) _) _) _⟩
  case round =>
    obtain ⟨k, hk, rfl, hI, hR, hS, hT, hB⟩ := hrel
    by_cases hlt : k < 256
    · have HF := Lib.hid (by_step (cless S T) k)
      have hv := Lib.hid (show (cless S T) k = (S k && !T k) from rfl)
      obtain ⟨c0, c1, c2, c3⟩ := hS.cells
      go_wp2_with fail
      refine (refhas_any S k (by omega) wr).mono ?_
      rintro e w2 ⟨rfl, hb2⟩
      clear c0 c1 c2 c3
      have hI2 := hI.below hb2 hI.lt
      have hR2 := hR.below hb2 hR.lt
      have hS2 := hS.below hb2 hS.lt
      have hT2 := hT.below hb2 hT.lt
      have hB2 := btr hB hb2
      clear hI hR hS hT hB hb2
      obtain ⟨c0, c1, c2, c3⟩ := hT2.cells
      go_wp2_with fail
      refine (refhas_any T k (by omega) w2).mono ?_
      rintro e w3 ⟨rfl, hb3⟩
      clear c0 c1 c2 c3
      have hI3 := hI2.below hb3 hI2.lt
      have hR3 := hR2.below hb3 hR2.lt
      have hS3 := hS2.below hb3 hS2.lt
      have hT3 := hT2.below hb3 hT2.lt
      have hB3 := btr hB2 hb3
      clear hI2 hR2 hS2 hT2 hB2 hb3
      have hs := (hI3.cell k).trans (bools_get _ k (by omega))
      have hsf := hI3.frozen k
      cases hx : S k <;> cases hy : T k <;> rw [hx, hy] at hv
      all_goals
        clear hx hy
        go_wp2
        go_roundw
        case rel => exact ⟨k + 1, by omega, by go_num, by rw [HF.out, hv.out]; exact hI3.set k _, hR3.other _ _ (by dsimp only; omega), hS3.other _ _ (by dsimp only; omega), hT3.other _ _ (by dsimp only; omega), hB3.setCell (by dsimp only; omega) _⟩
        case measure => simp [intOf]; omega
    · obtain rfl : k = 256 := by omega
      have HE := Lib.hid (sv_ext (S := under (cless S T) 256) (T := cless S T) (fun i hi => by simp [under, hi]))
      have HM := Lib.hid (make_any (under (cless S T) 256) (w.heap.size + 3) wr (fun i hi => (hI.cell i).trans (bools_get _ i hi)))
      go_wp2_with fail
      refine HM.out.mono ?_
      rintro e w2 ⟨rfl, hb2⟩
      have hR2 := hR.below hb2 hR.lt
      have hB2 := btr hB hb2
      have r0 := hR2.cell 0
      have r1 := hR2.cell 1
      have r2 := hR2.cell 2
      have r3 := hR2.cell 3
      have f0 := hR2.frozen 0
      have f1 := hR2.frozen 1
      have f2 := hR2.frozen 2
      have f3 := hR2.frozen 3
      go_wp2
      refine bodyPost_ret (v := sv (under (cless S T) 256)) (by simp [results, Tryd.results20, go_sem, *]) rfl ⟨by rw [HE.out], ?_⟩
      repeat (first | exact hB2 | refine Below.setCell ?_ (by dsimp only; omega) _)

set_option maxRecDepth 100000 in
set_option maxHeartbeats 2000000 in
theorem by3_any (S T : Nat → Bool) (w : World) :
    Calls Tryd.prog 20 #[sv S, sv T, .int .i64 3] w fun e w' => e = .returned (sv (neg S)) ∧ Below w.heap.size w w' := by
  have hmk := make_bools
  go_enter Tryd.func20, Tryd.ntmps20
  go_wp2
  clear hmk
  go_loopw [8] (fun i wr => ∃ k : Nat, k ≤ 256 ∧ i = .int .i64 k ∧ Blk wr (w.heap.size + 3) 4 (bools (under (neg S) k)) ∧ Blk wr (w.heap.size + 2) 24 zero4 ∧ Blk wr w.heap.size 24 (cells4 S) ∧ Blk wr (w.heap.size + 1) 24 (cells4 T) ∧ Below w.heap.size w wr)
    (fun i _ => 256 - (intOf i).toNat)
  case atStart => exact ⟨0, by decide, rfl, byStart3 _ _ _ _ _, byStart2 _ _ _ _, byStart0 _ _ _ _ _, byStart1 _ _ _ _ _, bal (bal (bal (bal (Below.refl _ _) _) _) _) _⟩
  case round =>
    obtain ⟨k, hk, rfl, hI, hR, hS, hT, hB⟩ := hrel
    by_cases hlt : k < 256
    · have HF := Lib.hid (by_step (neg S) k)
      have hv := Lib.hid (show (neg S) k = (!S k) from rfl)
      obtain ⟨c0, c1, c2, c3⟩ := hS.cells
      go_wp2_with fail
      refine (refhas_any S k (by omega) wr).mono ?_
      rintro e w2 ⟨rfl, hb2⟩
      clear c0 c1 c2 c3
      have hI2 := hI.below hb2 hI.lt
      have hR2 := hR.below hb2 hR.lt
      have hS2 := hS.below hb2 hS.lt
      have hT2 := hT.below hb2 hT.lt
      have hB2 := btr hB hb2
      clear hI hR hS hT hB hb2
      obtain ⟨c0, c1, c2, c3⟩ := hT2.cells
      go_wp2_with fail
      refine (refhas_any T k (by omega) w2).mono ?_
      rintro e w3 ⟨rfl, hb3⟩
      clear c0 c1 c2 c3
      have hI3 := hI2.below hb3 hI2.lt
      have hR3 := hR2.below hb3 hR2.lt
      have hS3 := hS2.below hb3 hS2.lt
      have hT3 := hT2.below hb3 hT2.lt
      have hB3 := btr hB2 hb3
      clear hI2 hR2 hS2 hT2 hB2 hb3
      have hs := (hI3.cell k).trans (bools_get _ k (by omega))
      have hsf := hI3.frozen k
      cases hx : S k <;> cases hy : T k <;> rw [hx] at hv
      all_goals
        clear hx hy
        go_wp2
        go_roundw
        case rel => exact ⟨k + 1, by omega, by go_num, by rw [HF.out, hv.out]; exact hI3.set k _, hR3.other _ _ (by dsimp only; omega), hS3.other _ _ (by dsimp only; omega), hT3.other _ _ (by dsimp only; omega), hB3.setCell (by dsimp only; omega) _⟩
        case measure => simp [intOf]; omega
    · obtain rfl : k = 256 := by omega
      have HE := Lib.hid (sv_ext (S := under (neg S) 256) (T := neg S) (fun i hi => by simp [under, hi]))
      have HM := Lib.hid (make_any (under (neg S) 256) (w.heap.size + 3) wr (fun i hi => (hI.cell i).trans (bools_get _ i hi)))
      go_wp2_with fail
      refine HM.out.mono ?_
      rintro e w2 ⟨rfl, hb2⟩
      have hR2 := hR.below hb2 hR.lt
      have hB2 := btr hB hb2
      have r0 := hR2.cell 0
      have r1 := hR2.cell 1
      have r2 := hR2.cell 2
      have r3 := hR2.cell 3
      have f0 := hR2.frozen 0
      have f1 := hR2.frozen 1
      have f2 := hR2.frozen 2
      have f3 := hR2.frozen 3
      go_wp2
      refine bodyPost_ret (v := sv (under (neg S) 256)) (by simp [results, Tryd.results20, go_sem, *]) rfl ⟨by rw [HE.out], ?_⟩
      repeat (first | exact hB2 | refine Below.setCell ?_ (by dsimp only; omega) _)
end Go.Proofs.YtgckhkdjjmeboaaDoor
