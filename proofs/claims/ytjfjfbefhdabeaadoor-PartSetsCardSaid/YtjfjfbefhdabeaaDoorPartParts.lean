/-
  The walk of package part's Parts: ErrLong of more than 1024 sets, else the partition that tells the sets' bytes apart, in a new slice; nothing that was there before the call has changed. Conditions: the sets lie in memory as a slice.
-/
import Derived.Test.YtjfjfbefhdabeaaDoorPartMap
import Derived.Deep.RegionHeld3
import Derived.Deep.QuietTactic
import Derived.BigQuiet
import Derived.Deep.Onto
namespace Go.Proofs.YtjfjfbefhdabeaaDoor
open Go.RowKit Go.Maps

theorem cell_zero4_new (w : World) (t : TypeId) : ∀ j u, [Value.int .u64 0, .int .u64 0, .int .u64 0, .int .u64 0][j]? = some u → (w.alloc (.cells zero4 t)).cell? ((⟨w.heap.size, 0, none⟩ : Addr).add j) = some u := by
  intro j u hj
  match j, hj with
  | 0, hj => simp at hj; subst hj; simp [Addr.add]
  | 1, hj => simp at hj; subst hj; simp [Addr.add]
  | 2, hj => simp at hj; subst hj; simp [Addr.add]
  | 3, hj => simp at hj; subst hj; simp [Addr.add]
  | j + 4, hj => simp at hj

set_option maxRecDepth 100000 in
set_option maxHeartbeats 20000000 in
theorem parts_any {H : Type} (ao : Option Addr) (len cap : Nat) (L : List (Nat → Bool)) (hl : L.length = len) (hlen : len ≤ 1024) (w : World) (hS : SAt w ao L w.heap.size) :
    Calls Tryd.prog 8 #[.slice ao len cap] w fun e w' => ∃ v, e = .returned (.tuple #[v, .int .i64 0]) ∧ w'.ownsRow w.heap.size 35 4 v (parts L).length (setCells (parts L)) ∧ Below w.heap.size w w' := by
  obtain ⟨i0, hi, hz0, hz1, hz2⟩ := info_parts info_set
  have HL := Lib.hid hl
  have HS := Lib.hid hS
  clear hl hS
  have hmm := @run_makeMap Tryd.prog
  have hln : ¬ (len : Int) > 1024 := by omega
  go_enter Tryd.func8, Tryd.ntmps8
  go_wp2_with fail
  go_loopw [4, 14] (fun v i wr => ∃ (k : Nat) (D : DataW H), k ≤ 256 ∧ i = .int .i64 k ∧ wr.ownsRow (w.heap.size + 1) 35 4 v (prts (cls L) k).length (setCells (prts (cls L) k)) ∧ wr.ownsMap Tryd.prog 9 (plainElem Tryd.prog 3) w.heap.size k D ∧ Hid (MapInv L k D) ∧ Below w.heap.size w wr)
    (fun _ i _ => 256 - (intOf i).toNat)
  case atStart => exact ⟨0, .map [], by decide, rfl, World.ownsRow_nil _ _ _ _, World.ownsMap_made _ _ _ _, Lib.hid (MapInv.zero L), bal (Below.refl _ _) _⟩
  case round =>
    obtain ⟨k, D, hk, rfl, hown, hmap, hinv, hB⟩ := hrel
    by_cases hlt : k < 256
    · have hwk : IntKind.u8.wrap (k : Int) = (k : Int) := by rw [IntKind.wrap_u8]; omega
      go_wp2_with fail
      refine (marks_any ao len cap L HL.out (by omega) k (by omega) wr ((HS.out.below hB (Nat.le_refl _)).mono hB.size)).mono ?_
      rintro e w1 ⟨rfl, hb1⟩
      have hown1 := owns_below hown hb1
      have hmap1 := ownsMap_below hmap hb1
      have hB1 := btr hB hb1
      have hsz1 : w.heap.size + 1 ≤ w1.heap.size := hmap1.lt
      have hkey : keyOf Tryd.prog 9 (.string (strOfNums (marksN L k))) = some (keyL L k) := WideMaps.keyOf_string_mk Tryd.underlying9 (by rw [strOfNums_size, marksN_length, HL.out]; unfold maxLen; omega)
      have hnk := nx_le (cls L) k (fun b hb => cls_rgs L k b hb)
      have hpl := prts_length (cls L) k
      clear hown hmap hB hb1
      generalize strOfNums (marksN L k) = key at *
      cases hh : Maps.has D (keyL L k) with
      | true =>
        have hc := hinv.out.at' k hh
        have hlt' := hinv.out.lt hh
        have hstep := Lib.hid (prts_old (cls L) k hlt')
        have hinv' := Lib.hid (hinv.out.old hh)
        change D.atKey (keyL L k) (.lit (.int .i64 0)) = .lit (.int .i64 ((cls L k : Nat) : Int)) at hc
        rw [← hpl] at hlt' hnk
        clear hinv hpl
        generalize prts (cls L) k = P at *
        generalize hP : P.length = m at *
        generalize cls L k = at' at *
        obtain ⟨g, cap', rfl, hgb, hgl⟩ := hown1.form (by omega)
        go_wp2_with (first | (at_lookup; refine lookup_known _ rfl _ _ 42 rfl 9 3 .i64 law_str Tryd.underlying42 Tryd.underlying3 (zero_int _) w.heap.size k D rfl hmap1 _ _ rfl hkey ((at' : Nat) : Int) true hc hh ?_) | fail)
        have hown3 : w1.drew.ownsRow (w.heap.size + 1) 35 4 (.slice (some ⟨g, 0, none⟩) m cap') m (setCells P) := hown1
        have hmap3 : w1.drew.ownsMap Tryd.prog 9 (plainElem Tryd.prog 3) w.heap.size k D := hmap1
        have hB3 : Below w.heap.size w w1.drew := Below.drew hB1
        obtain ⟨Q, hQ⟩ : ∃ Q, P.getD at' no = Q := ⟨_, rfl⟩
        have HQ := Lib.hid hQ
        obtain ⟨a0, a1, a2, a3⟩ := owns_cellsQ hown1 hP at' hlt' HQ
        clear hQ
        have hown4 := hown3.alloc (.cells #[.int .u8 (k : Int)] 5)
        have hmap4 := hmap3.alloc (.cells #[.int .u8 (k : Int)] 5)
        have hB4 := bal hB3 (.cells #[.int .u8 (k : Int)] 5)
        have hz : ∀ i, i < 1 → (w1.drew.alloc (.cells #[.int .u8 (k : Int)] 5)).cell? ⟨w1.drew.heap.size, 0 + i, none⟩ = some (.int .u8 ((([k] : List Nat).getD i 0 : Nat) : Int)) := fun i hi => by
          obtain rfl : i = 0 := by omega
          exact (Blk.new w1.drew 5 #[.int .u8 (k : Int)]).cell 0
        have hi1 : ((at' : Nat) : Int) < ((m : Nat) : Int) := by omega
        have hi0 : (0 : Int) ≤ ((at' : Nat) : Int) := by omega
        clear hown1 hmap1 hB1 hkey hc hh
        go_region_with (first | (go_at_call 22; refine (of_any _ 1 1 [k] rfl (by decide) (by simp; omega) _ (fun _ => ⟨_, 0, rfl, hz⟩)).mono ?_; rintro e w5 ⟨rfl, hb5⟩; have hown5 := owns_below hown4 hb5; have hmap5 := ownsMap_below hmap4 hb5; have hB5 := btr hB4 hb5; obtain ⟨e0, e1, e2, e3⟩ := owns_cellsQ hown5 hP at' hlt' HQ) | (go_at_call 19; refine (any_to _ _ _).mono ?_; rw [or_of]; rintro e w6 ⟨rfl, hb6⟩; have hown6 := owns_below hown5 hb6; have hmap6 := ownsMap_below hmap5 hb6; have hB6 := btr hB5 hb6; have f0 := hown6.frozenAt (at' * 4); have f1 := hown6.frozenAt (at' * 4 + 1); have f2 := hown6.frozenAt (at' * 4 + 2); have f3 := hown6.frozenAt (at' * 4 + 3); obtain ⟨d0, d1, d2, d3⟩ := owns_cellsQ hown6 hP at' hlt' HQ))
        all_goals
          have hown7 := owns_put4 hown6 at' (upd Q k) (by rw [hP]; exact hlt')
          have hmap7 := (((hmap6.setCell (a := ⟨g, at' * 4, none⟩) (by simp only; omega) (.int .u64 ((wd (upd Q k) 0 : Nat) : Int))).setCell (a := ⟨g, at' * 4 + 1, none⟩) (by simp only; omega) (.int .u64 ((wd (upd Q k) 1 : Nat) : Int))).setCell (a := ⟨g, at' * 4 + 2, none⟩) (by simp only; omega) (.int .u64 ((wd (upd Q k) 2 : Nat) : Int))).setCell (a := ⟨g, at' * 4 + 3, none⟩) (by simp only; omega) (.int .u64 ((wd (upd Q k) 3 : Nat) : Int))
          have hB7 := below_put4 hB6 (show w.heap.size ≤ g by omega) (at' * 4) (upd Q k)
          clear hown3 hmap3 hB3 hown4 hmap4 hB4 hown5 hmap5 hB5 hown6 hmap6 hB6 hb5 hb6 a0 a1 a2 a3 e0 e1 e2 e3 f0 f1 f2 f3 d0 d1 d2 d3 hz
          go_wp2
          go_roundw
          case rel => exact ⟨k + 1, D, by omega, by go_num, by rw [hstep.out, HQ.out, List.length_set, hP]; exact hown7, hmap7.mono (by omega), hinv', hB7⟩
          case measure => simp [intOf]; omega
      | false =>
        have hc := atKey_of_not_has hh (.lit (.int .i64 0))
        have heq := hinv.out.eq hh
        have hstep := Lib.hid (prts_new (cls L) k heq)
        have hinv' := Lib.hid (hinv.out.new hh)
        rw [← heq] at hinv'
        rw [← hpl] at hnk heq
        clear hinv hpl
        generalize prts (cls L) k = P0 at *
        generalize hP0 : P0.length = m0 at *
        generalize cls L k = at' at *
        subst heq
        obtain ⟨m, hm⟩ : ∃ m, at' + 1 = m := ⟨_, rfl⟩
        have hlt' : at' < m := by omega
        obtain ⟨po, pc, rfl⟩ := owns_slice hown1
        have hne := map_row hmap1 hown1
        have hP : (P0 ++ [no]).length = m := by simp; omega
        go_wp2_with (first | (at_lookup; refine lookup_known _ rfl _ _ 42 rfl 9 3 .i64 law_str Tryd.underlying42 Tryd.underlying3 (zero_int _) w.heap.size k D rfl hmap1 _ _ rfl hkey 0 false hc hh ?_) | (at_mapUpdate; refine wpList_mapUpdate_own _ rfl _ _ _ 42 rfl 9 3 law_str Tryd.underlying42 (plainElem Tryd.prog 3) w.heap.size k D rfl hmap1 (by unfold maxLen; omega) _ _ (keyL L k) rfl rfl hkey (.lit (.int .i64 ((at' : Nat) : Int))) [] (plainElem_int Tryd.underlying3 (WalkArith.wf_i64 (by omega))) ?_; intro w2 hmap2 hg2; have hown2 := hown1.kept hg2 (.inr hne.symm); have hB2 := hB1.grown hg2 hB1.size (fun j hj => by cases hj; exact Nat.le_refl _); have hsz2 : w.heap.size + 1 ≤ w2.heap.size := hmap2.lt) | (at_builtin; refine wpList_append_own _ rfl _ _ 22 rfl (w.heap.size + 1) 35 i0 (.agg zero4) 4 32 Tryd.underlying22 hi hz0 hz1 hz2 rfl (by decide) _ _ _ rfl (hown2.alloc _) ⟨w2.heap.size, 0, none⟩ 1 1 [.int .u64 0, .int .u64 0, .int .u64 0, .int .u64 0] rfl rfl (cell_zero4_new _ _) (by simp [Value.oneCell']) (by unfold maxLen; omega) (by omega) (by simp; omega) ?_; intro v' w3 hown3 hg3 _; rw [hm] at hown3; obtain ⟨g, cap', rfl, hgb, hgl⟩ := hown3.form (by omega)) | fail)
        have hlow := grown_low _ hown2 hsz2 hg3
        have hmap3 := ownsMap_belowN hmap2 hlow (by omega)
        have hB3 := hB2.trans (hlow.mono (by omega))
        have e4 : setCells P0 ++ [.int .u64 0, .int .u64 0, .int .u64 0, .int .u64 0] = setCells (P0 ++ [no]) := (setCells_append P0 [no]).symm
        rw [e4] at hown3
        clear hown1 hmap1 hB1 hown2 hmap2 hB2 hg2 hg3 hlow hne e4
        generalize P0 ++ [no] = P at *
        have hownA : w3.drew.ownsRow (w.heap.size + 1) 35 4 (.slice (some ⟨g, 0, none⟩) m cap') m (setCells P) := hown3
        have hmapA : w3.drew.ownsMap Tryd.prog 9 (plainElem Tryd.prog 3) w.heap.size (k + 1) (D.put (keyL L k) (.lit (.int .i64 ((at' : Nat) : Int)))) := hmap3
        have hBA : Below w.heap.size w w3.drew := Below.drew hB3
        obtain ⟨Q, hQ⟩ : ∃ Q, P.getD at' no = Q := ⟨_, rfl⟩
        have HQ := Lib.hid hQ
        obtain ⟨a0, a1, a2, a3⟩ := owns_cellsQ hown3 hP at' hlt' HQ
        clear hQ
        have hown4 := hownA.alloc (.cells #[.int .u8 (k : Int)] 5)
        have hmap4 := hmapA.alloc (.cells #[.int .u8 (k : Int)] 5)
        have hB4 := bal hBA (.cells #[.int .u8 (k : Int)] 5)
        have hz : ∀ i, i < 1 → (w3.drew.alloc (.cells #[.int .u8 (k : Int)] 5)).cell? ⟨w3.drew.heap.size, 0 + i, none⟩ = some (.int .u8 ((([k] : List Nat).getD i 0 : Nat) : Int)) := fun i hi => by
          obtain rfl : i = 0 := by omega
          exact (Blk.new w3.drew 5 #[.int .u8 (k : Int)]).cell 0
        have hi1 : ((at' : Nat) : Int) < ((m : Nat) : Int) := by omega
        have hi0 : (0 : Int) ≤ ((at' : Nat) : Int) := by omega
        clear hown3 hmap3 hB3 hkey hc hh
        go_region_with (first | (go_at_call 22; refine (of_any _ 1 1 [k] rfl (by decide) (by simp; omega) _ (fun _ => ⟨_, 0, rfl, hz⟩)).mono ?_; rintro e w5 ⟨rfl, hb5⟩; have hown5 := owns_below hown4 hb5; have hmap5 := ownsMap_below hmap4 hb5; have hB5 := btr hB4 hb5; obtain ⟨e0, e1, e2, e3⟩ := owns_cellsQ hown5 hP at' hlt' HQ) | (go_at_call 19; refine (any_to _ _ _).mono ?_; rw [or_of]; rintro e w6 ⟨rfl, hb6⟩; have hown6 := owns_below hown5 hb6; have hmap6 := ownsMap_below hmap5 hb6; have hB6 := btr hB5 hb6; have f0 := hown6.frozenAt (at' * 4); have f1 := hown6.frozenAt (at' * 4 + 1); have f2 := hown6.frozenAt (at' * 4 + 2); have f3 := hown6.frozenAt (at' * 4 + 3); obtain ⟨d0, d1, d2, d3⟩ := owns_cellsQ hown6 hP at' hlt' HQ))
        all_goals
          have hown7 := owns_put4 hown6 at' (upd Q k) (by rw [hP]; exact hlt')
          have hmap7 := (((hmap6.setCell (a := ⟨g, at' * 4, none⟩) (by simp only; omega) (.int .u64 ((wd (upd Q k) 0 : Nat) : Int))).setCell (a := ⟨g, at' * 4 + 1, none⟩) (by simp only; omega) (.int .u64 ((wd (upd Q k) 1 : Nat) : Int))).setCell (a := ⟨g, at' * 4 + 2, none⟩) (by simp only; omega) (.int .u64 ((wd (upd Q k) 2 : Nat) : Int))).setCell (a := ⟨g, at' * 4 + 3, none⟩) (by simp only; omega) (.int .u64 ((wd (upd Q k) 3 : Nat) : Int))
          have hB7 := below_put4 hB6 (show w.heap.size ≤ g by omega) (at' * 4) (upd Q k)
          clear hownA hmapA hBA hown4 hmap4 hB4 hown5 hmap5 hB5 hown6 hmap6 hB6 hb5 hb6 a0 a1 a2 a3 e0 e1 e2 e3 f0 f1 f2 f3 d0 d1 d2 d3 hz
          go_wp2
          go_roundw
          case rel => exact ⟨k + 1, (D.put (keyL L k) (.lit (.int .i64 ((at' : Nat) : Int)))), by omega, by go_num, by rw [hstep.out, HQ.out, List.length_set, hP]; exact hown7, hmap7.mono (by omega), hinv', hB7⟩
          case measure => simp [intOf]; omega
    · obtain rfl : k = 256 := by omega
      go_wp2
      go_ret2
      exact ⟨u4, rfl, hown.mono (by omega), hB⟩
end Go.Proofs.YtjfjfbefhdabeaaDoor
