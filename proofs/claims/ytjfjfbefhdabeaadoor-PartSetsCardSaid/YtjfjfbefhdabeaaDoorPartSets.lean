/-
  The walk of package part's Sets: ErrArg of what are no classes, else the sets of the classes in a new slice; nothing that was there before the call has changed. Conditions: the numbers lie in memory as a slice.
-/
import Derived.Test.YtjfjfbefhdabeaaDoorPartIsClass
import Derived.Test.YtjfjfbefhdabeaaDoorPartParts
namespace Go.Proofs.YtjfjfbefhdabeaaDoor
open Go.RowKit

theorem sets_bad (ao : Option Addr) (len cap : Nat) (xs : List Int) (hl : xs.length = len) (w : World) (hS : IAt w ao xs w.heap.size) (hok : ¬ ClassOk xs) :
    Calls Tryd.prog 15 #[.slice ao len cap] w fun e w' => e = .returned (.tuple #[.slice none 0 0, .int .i64 1]) ∧ Below w.heap.size w w' := by
  have HS := Lib.hid hS
  have hf := classB_f hok
  clear hS hok
  go_enter Tryd.func15, Tryd.ntmps15
  go_wp2_with fail
  refine (isClass_any ao len cap xs hl w HS.out).mono ?_
  rw [hf]
  rintro e w1 ⟨rfl, hb1⟩
  go_wp2
  go_ret2
  exact ⟨rfl, hb1⟩

set_option maxRecDepth 100000 in
set_option maxHeartbeats 20000000 in
theorem sets_any (ao : Option Addr) (cap : Nat) (xs : List Int) (w : World) (hS : IAt w ao xs w.heap.size) (hok : ClassOk xs) :
    Calls Tryd.prog 15 #[.slice ao 256 cap] w fun e w' => ∃ v, e = .returned (.tuple #[v, .int .i64 0]) ∧ w'.ownsRow w.heap.size 35 4 v (prts (natOf xs) 256).length (setCells (prts (natOf xs) 256)) ∧ Below w.heap.size w w' := by
  obtain ⟨i0, hi, hz0, hz1, hz2⟩ := info_parts info_set
  have HL := Lib.hid hok.len
  have HS := Lib.hid hS
  have ht := (classB_iff xs).2 hok
  have HC := Lib.hid hok
  clear hS hok
  go_enter Tryd.func15, Tryd.ntmps15
  go_wp2_with fail
  refine (isClass_any ao 256 cap xs HL.out w HS.out).mono ?_
  rw [ht]
  rintro e w0 ⟨rfl, hb0⟩
  have HB := Lib.hid hb0
  clear hb0 ht
  go_wp2_with fail
  go_loopw [4, 10] (fun v i wr => ∃ k : Nat, k ≤ 256 ∧ i = .int .i64 k ∧ wr.ownsRow w.heap.size 35 4 v (prts (natOf xs) k).length (setCells (prts (natOf xs) k)) ∧ Below w.heap.size w wr)
    (fun _ i _ => 256 - (intOf i).toNat)
  case atStart => exact ⟨0, by decide, rfl, World.ownsRow_nil _ _ _ _, HB.out⟩
  case round =>
    obtain ⟨k, hk, rfl, hown, hB⟩ := hrel
    by_cases hlt : k < 256
    · have hwk : IntKind.u8.wrap (k : Int) = (k : Int) := by rw [IntKind.wrap_u8]; omega
      obtain ⟨g0, off, rfl, hg0, hc⟩ := HS.out (by rw [HL.out]; decide)
      have ck := (hB.cell (p := ⟨g0, off + k, none⟩) hg0).trans (hc k (by rw [HL.out]; exact hlt))
      rw [← HC.out.cast k hlt] at ck
      have hnk := nx_le (natOf xs) k (fun b hb => HC.out.rgs b (by omega))
      have hle := HC.out.rgs k hlt
      have hpl := prts_length (natOf xs) k
      have hold := Lib.hid (prts_old (natOf xs) k)
      have hnew := Lib.hid (prts_new (natOf xs) k)
      rw [← hpl] at hnk hle hold hnew
      clear hpl hc
      generalize prts (natOf xs) k = P at *
      generalize hP : P.length = m at *
      generalize natOf xs k = at' at *
      by_cases hlt' : at' < m
      · have hstep := Lib.hid (hold.out hlt')
        have hd : ((at' : Int) == (m : Int)) = false := by simp; omega
        clear hold hnew
        obtain ⟨g, cap', rfl, hgb, hgl⟩ := hown.form (by omega)
        go_wp2_with fail
        have hown3 : wr.drew.ownsRow w.heap.size 35 4 (.slice (some ⟨g, 0, none⟩) m cap') m (setCells P) := hown
        have hB3 : Below w.heap.size w wr.drew := Below.drew hB
        obtain ⟨Q, hQ⟩ : ∃ Q, P.getD at' no = Q := ⟨_, rfl⟩
        have HQ := Lib.hid hQ
        obtain ⟨a0, a1, a2, a3⟩ := owns_cellsQ hown hP at' hlt' HQ
        clear hQ
        have hown4 := hown3.alloc (.cells #[.int .u8 (k : Int)] 5)
        have hB4 := bal hB3 (.cells #[.int .u8 (k : Int)] 5)
        have hz : ∀ i, i < 1 → (wr.drew.alloc (.cells #[.int .u8 (k : Int)] 5)).cell? ⟨wr.drew.heap.size, 0 + i, none⟩ = some (.int .u8 ((([k] : List Nat).getD i 0 : Nat) : Int)) := fun i hi => by
          obtain rfl : i = 0 := by omega
          exact (Blk.new wr.drew 5 #[.int .u8 (k : Int)]).cell 0
        have hi1 : ((at' : Nat) : Int) < ((m : Nat) : Int) := by omega
        have hi0 : (0 : Int) ≤ ((at' : Nat) : Int) := by omega
        clear hown hB
        go_region_with (first | (go_at_call 22; refine (of_any _ 1 1 [k] rfl (by decide) (by simp; omega) _ (fun _ => ⟨_, 0, rfl, hz⟩)).mono ?_; rintro e w5 ⟨rfl, hb5⟩; have hown5 := owns_below hown4 hb5; have hB5 := btr hB4 hb5; obtain ⟨e0, e1, e2, e3⟩ := owns_cellsQ hown5 hP at' hlt' HQ) | (go_at_call 19; refine (any_to _ _ _).mono ?_; rw [or_of]; rintro e w6 ⟨rfl, hb6⟩; have hown6 := owns_below hown5 hb6; have hB6 := btr hB5 hb6; have f0 := hown6.frozenAt (at' * 4); have f1 := hown6.frozenAt (at' * 4 + 1); have f2 := hown6.frozenAt (at' * 4 + 2); have f3 := hown6.frozenAt (at' * 4 + 3); obtain ⟨d0, d1, d2, d3⟩ := owns_cellsQ hown6 hP at' hlt' HQ))
        all_goals
          have hown7 := owns_put4 hown6 at' (upd Q k) (by rw [hP]; exact hlt')
          have hB7 := below_put4 hB6 hgb (at' * 4) (upd Q k)
          clear hown3 hB3 hown4 hB4 hown5 hB5 hown6 hB6 hb5 hb6 a0 a1 a2 a3 e0 e1 e2 e3 f0 f1 f2 f3 d0 d1 d2 d3 hz
          go_wp2
          go_roundw
          case rel => exact ⟨k + 1, by omega, by go_num, by rw [hstep.out, HQ.out, List.length_set, hP]; exact hown7, hB7⟩
          case measure => simp [intOf]; omega
      · obtain rfl : at' = m := by omega
        have hstep := Lib.hid (hnew.out rfl)
        obtain ⟨m, hm⟩ : ∃ m, at' + 1 = m := ⟨_, rfl⟩
        have hlt' : at' < m := by omega
        have hP1 : (P ++ [no]).length = m := by simp; omega
        have hsz : w.heap.size ≤ wr.heap.size := hB.size
        clear hold hnew
        obtain ⟨po, pc, rfl⟩ := owns_slice hown
        go_wp2_with (first | (at_builtin; refine wpList_append_own _ rfl _ _ 22 rfl w.heap.size 35 i0 (.agg zero4) 4 32 Tryd.underlying22 hi hz0 hz1 hz2 rfl (by decide) _ _ _ rfl (hown.alloc _) ⟨wr.heap.size, 0, none⟩ 1 1 [.int .u64 0, .int .u64 0, .int .u64 0, .int .u64 0] rfl rfl (cell_zero4_new _ _) (by simp [Value.oneCell']) (by unfold maxLen; omega) (by omega) (by simp; omega) ?_; intro v' w3 hown3 hg3 _; rw [hm] at hown3; obtain ⟨g, cap', rfl, hgb, hgl⟩ := hown3.form (by omega)) | fail)
        have hlow := grown_low _ hown hsz hg3
        have hB3 := hB.trans hlow
        have e4 : setCells P ++ [.int .u64 0, .int .u64 0, .int .u64 0, .int .u64 0] = setCells (P ++ [no]) := (setCells_append P [no]).symm
        rw [e4] at hown3
        clear hown hB hg3 hlow e4 hP
        have hP := hP1
        clear hP1
        generalize P ++ [no] = P at *
        have hownA : w3.drew.ownsRow w.heap.size 35 4 (.slice (some ⟨g, 0, none⟩) m cap') m (setCells P) := hown3
        have hBA : Below w.heap.size w w3.drew := Below.drew hB3
        obtain ⟨Q, hQ⟩ : ∃ Q, P.getD at' no = Q := ⟨_, rfl⟩
        have HQ := Lib.hid hQ
        obtain ⟨a0, a1, a2, a3⟩ := owns_cellsQ hown3 hP at' hlt' HQ
        clear hQ
        have hown4 := hownA.alloc (.cells #[.int .u8 (k : Int)] 5)
        have hB4 := bal hBA (.cells #[.int .u8 (k : Int)] 5)
        have hz : ∀ i, i < 1 → (w3.drew.alloc (.cells #[.int .u8 (k : Int)] 5)).cell? ⟨w3.drew.heap.size, 0 + i, none⟩ = some (.int .u8 ((([k] : List Nat).getD i 0 : Nat) : Int)) := fun i hi => by
          obtain rfl : i = 0 := by omega
          exact (Blk.new w3.drew 5 #[.int .u8 (k : Int)]).cell 0
        have hi1 : ((at' : Nat) : Int) < ((m : Nat) : Int) := by omega
        have hi0 : (0 : Int) ≤ ((at' : Nat) : Int) := by omega
        clear hown3 hB3
        go_region_with (first | (go_at_call 22; refine (of_any _ 1 1 [k] rfl (by decide) (by simp; omega) _ (fun _ => ⟨_, 0, rfl, hz⟩)).mono ?_; rintro e w5 ⟨rfl, hb5⟩; have hown5 := owns_below hown4 hb5; have hB5 := btr hB4 hb5; obtain ⟨e0, e1, e2, e3⟩ := owns_cellsQ hown5 hP at' hlt' HQ) | (go_at_call 19; refine (any_to _ _ _).mono ?_; rw [or_of]; rintro e w6 ⟨rfl, hb6⟩; have hown6 := owns_below hown5 hb6; have hB6 := btr hB5 hb6; have f0 := hown6.frozenAt (at' * 4); have f1 := hown6.frozenAt (at' * 4 + 1); have f2 := hown6.frozenAt (at' * 4 + 2); have f3 := hown6.frozenAt (at' * 4 + 3); obtain ⟨d0, d1, d2, d3⟩ := owns_cellsQ hown6 hP at' hlt' HQ))
        all_goals
          have hown7 := owns_put4 hown6 at' (upd Q k) (by rw [hP]; exact hlt')
          have hB7 := below_put4 hB6 hgb (at' * 4) (upd Q k)
          clear hownA hBA hown4 hB4 hown5 hB5 hown6 hB6 hb5 hb6 a0 a1 a2 a3 e0 e1 e2 e3 f0 f1 f2 f3 d0 d1 d2 d3 hz
          go_wp2
          go_roundw
          case rel => exact ⟨k + 1, by omega, by go_num, by rw [hstep.out, HQ.out, List.length_set, hP]; exact hown7, hB7⟩
          case measure => simp [intOf]; omega
    · obtain rfl : k = 256 := by omega
      go_wp2
      go_ret2
      exact ⟨u4, rfl, hown, hB⟩
end Go.Proofs.YtjfjfbefhdabeaaDoor
