/-
  The reference's Sort. Conditions: the numbers lie in memory as a slice.
-/
import Derived.Test.YtbnnfhpphelmfaaInternAppend
namespace Go.Proofs.Ytbnnfhpphelmfaa
open Go.RowKit

theorem owns_belowN {w w' : World} {base : Nat} {e : TypeId} {size n : Nat} {v : Value} {xs : List Value} (h : w.ownsRow base e size v n xs) (hb : Below w.heap.size w w') : w'.ownsRow base e size v n xs :=
  h.kept (row := none) ⟨hb.os, hb.tape, hb.output, hb.size, fun k hk _ => hb.block k hk⟩ (Classical.em _)
set_option maxRecDepth 100000 in
set_option maxHeartbeats 4000000 in
theorem refsort_own (ao : Option Addr) (len cap : Nat) (L : List Int) (hl : L.length = len) (hm : len ≤ 1000000) (w : World) (hA : IAt w ao L w.heap.size) :
    Calls Try.prog 13 #[.slice ao len cap] w fun e w' => ∃ v, e = .returned v ∧ w'.ownsRow w.heap.size 3 1 v (srt L).length (numCells (srt L)) ∧ Below w.heap.size w w' := by
  have HA := IAt.hid hl hA
  have HT := Lib.hid (fun k (h : k < len) => srt_take L k (by omega))
  have HN := Lib.hid (fun k (h : k ≤ len) => srt_length_take L k (by omega))
  have HE := Lib.hid (show srt (L.take len) = srt L by rw [← hl, List.take_length])
  obtain ⟨ii, hi, hz0, hz1, hz2⟩ := info_parts info_num
  clear hl hA
  go_enter Try.func13, Try.ntmps13
  go_wp2
  go_loopw [3, 4] (fun o i wr => ∃ k : Nat, k ≤ len ∧ i = .int .i64 k ∧ wr.ownsRow w.heap.size 3 1 o (srt (L.take k)).length (numCells (srt (L.take k))) ∧ Below w.heap.size w wr)
    (fun _ i _ => len - (intOf i).toNat)
  case atStart => exact ⟨0, Nat.zero_le _, rfl, World.ownsRow_nil _ _ _ _, Below.refl _ _⟩
  case round =>
    obtain ⟨k, hk, rfl, hown, hB⟩ := hrel
    by_cases hlt : k < len
    · obtain ⟨g, off, rfl, hg, hc⟩ := HA.out (by omega)
      have eL := hc k hlt wr hB
      have i0 : (0 : Int) ≤ (k : Int) := by omega
      have i1 : (k : Int) < (len : Int) := by omega
      have HX := Lib.hid (HT.out k hlt)
      have hSn := HN.out k hk
      have hsz := hB.size
      generalize L.getD k 0 = x at *
      generalize srt (L.take k) = S at *
      obtain ⟨n, hn⟩ : ∃ n, S.length = n := ⟨_, rfl⟩
      obtain ⟨oo, oc, rfl, ho1, ho2, hat⟩ := IAt.of_owns hown
      have hgw : g < wr.heap.size := by omega
      have HO := IAt.hid hn hat
      rw [hn] at hown ho1 hSn ⊢
      have HNN := Lib.hid hn
      clear hc hn hat
      generalize wr = wo at *
      go_wp2
      go_loopw [5] (fun a wr => ∃ p : Nat, p ≤ n ∧ a = .int .i64 p ∧ (∀ i, i < p → S.getD i 0 < x) ∧ Below wo.heap.size wo wr)
        (fun a _ => n - (intOf a).toNat)
      case atStart => exact ⟨0, Nat.zero_le _, rfl, fun i hi => absurd hi (Nat.not_lt_zero _), Below.refl _ _⟩
      case round =>
        obtain ⟨p, hp, rfl, hpx, hBp⟩ := hrel
        have HPX := Lib.hid hpx
        clear hpx
        have j0 : (0 : Int) ≤ (p : Int) := by omega
        have eL1 : wr.cell? ⟨g, off + k, none⟩ = some (.int .i64 x) := (hBp.cell (p := ⟨g, _, none⟩) hgw).trans eL
        by_cases hpn : p < n
        · have j1 : (p : Int) < (n : Int) := by omega
          obtain ⟨g', off', rfl, hg', hc'⟩ := HO.out (by omega)
          have eS := hc' p hpn wr hBp
          obtain ⟨y, hy⟩ : ∃ y, S.getD p 0 = y := ⟨_, rfl⟩
          rw [hy] at eS
          have HY := Lib.hid hy
          clear hy hc' eL
          by_cases c1 : y < x
          · have d1 : decide (y < x) = true := decide_eq_true c1
            have HC1 := Lib.hid c1
            clear c1
            go_wp2_with fail
            go_quiet (fail)
            go_wp2
            go_roundw
            case rel =>
              refine ⟨p + 1, by omega, by go_num, fun i hi => ?_, below_drewN hBp _⟩
              rcases Nat.lt_or_ge i p with h | h
              · exact HPX.out i h
              · obtain rfl : i = p := by omega
                rw [HY.out]
                exact HC1.out
            case measure => simp [intOf]; omega
          · have d1 : decide (y < x) = false := decide_eq_false c1
            have hah := ahead_unique x S p (by rw [HNN.out]; omega) HPX.out (fun _ => by rw [HY.out]; exact c1)
            have HAH := Lib.hid hah
            by_cases c2 : y = x
            · have d2 : (y == x) = true := beq_iff_eq.2 c2
              have HSS := Lib.hid (show ins x S = S from ins_there x S (by rw [← hah, HNN.out]; exact hpn) (by rw [← hah, HY.out]; exact c2))
              clear c1 c2 hah
              go_wp2_with fail
              go_quiet (fail)
              have eL2 : (wr.drewN nq).cell? ⟨g, off + k, none⟩ = some (.int .i64 x) := eL1
              have eS2 : (wr.drewN nq).cell? ⟨g', off' + p, none⟩ = some (.int .i64 y) := eS
              have hBq := below_drewN hBp nq
              generalize wr.drewN nq = wq at eL2 eS2 hBq ⊢
              go_wp2_with fail
              go_quiet (fail)
              go_wp2
              go_roundw
              case rel =>
                refine ⟨k + 1, by omega, by go_num, ?_, btr hB (below_drewN hBq nq)⟩
                rw [HX.out, HSS.out, HNN.out]
                exact owns_belowN hown (below_drewN hBq nq)
              case measure => simp [intOf]; omega
            · have d2 : (y == x) = false := beq_eq_false_iff_ne.2 c2
              have HSS := Lib.hid (show ins x S = S.take p ++ [x] ++ S.drop p from by
                have := ins_new x S (fun _ => by rw [← hah, HY.out]; exact c2)
                rw [← hah] at this
                rw [this, List.append_assoc]
                rfl)
              clear c1 c2 hah
              go_wp2_with fail
              go_quiet (fail)
              have eL2 : (wr.drewN nq).cell? ⟨g, off + k, none⟩ = some (.int .i64 x) := eL1
              have eS2 : (wr.drewN nq).cell? ⟨g', off' + p, none⟩ = some (.int .i64 y) := eS
              have hBq := below_drewN hBp nq
              generalize wr.drewN nq = wq at eL2 eS2 hBq ⊢
              go_wp2_with fail
              go_quiet (fail)
              have eL3 : (wq.drewN nq).cell? ⟨g, off + k, none⟩ = some (.int .i64 x) := eL2
              have hBz := below_drewN hBq nq
              clear eL2 eS2 hBq eS eL1
              generalize wq.drewN nq = wz at eL3 hBz ⊢
              have hgz : g < wz.heap.size := Nat.lt_of_lt_of_le hgw hBz.size
              have hatz : IAt wz (some ⟨g', off', none⟩) S wz.heap.size := fun _ => ⟨g', off', rfl, Nat.lt_of_lt_of_le hg' hBz.size, fun i hi => by
                obtain ⟨g2, off2, e, _, hc2⟩ := HO.out (by omega)
                cases e
                exact hc2 i (by rw [HNN.out] at hi; exact hi) wz hBz⟩
              have hown0 : wz.ownsRow wz.heap.size 3 1 (.slice none 0 0) 0 (numCells []) := World.ownsRow_nil _ _ _ _
              have hocp : ¬ oc = p := by omega
              have l1 : (S.take p).length = p := by rw [List.length_take, HNN.out]; omega
              have l2 : (S.drop p).length = n - p := by rw [List.length_drop, HNN.out]
              have HL1 := Lib.hid l1
              have HL2 := Lib.hid l2
              have HAT := Lib.hid hatz
              have hp1 : (p : Int) ≤ (oc : Int) := by omega
              have hp2 : (p : Int) ≤ (n : Int) := by omega
              clear l1 l2 hatz
              clear HA HT HN HO HAH HPX HY
              go_wp2_with (first | (at_builtin; refine wpList_append_nums _ rfl _ _ rfl wz.heap.size (.slice none 0 0) 0 [] rfl hown0 (some ⟨g', off', none⟩) p oc (S.take p) rfl HL1.out (HAT.out.front p) (by omega) (Nat.le_refl _) ?_; intro v1 w1 hown1 hg1; have hb1 := grown_lowN hown0 (Nat.le_refl _) hg1; have hs1 := hb1.size; have eL4 : w1.cell? ⟨g, off + k, none⟩ = some (.int .i64 x) := (hb1.cell (p := ⟨g, _, none⟩) hgz).trans eL3; rw [Nat.zero_add, List.nil_append] at hown1) | (at_builtin; refine wpList_append_own _ rfl _ _ 22 rfl wz.heap.size 3 ii (.int .i64 0) 1 8 Try.underlying22 hi hz0 hz1 hz2 rfl (by decide) v1 p (numCells (S.take p)) rfl (hown1.alloc (.cells #[.int .i64 x] 3)) ⟨w1.heap.size, 0, none⟩ 1 1 [.int .i64 x] rfl rfl (cell_one_new _ _ _) (by simp [Value.oneCell']) (by unfold maxLen; omega) (by omega) (by rw [World.size_alloc]; omega) ?_; intro v2 w2 hown2 hg2 _; have hb2 := hb1.trans ((Below.alloc (Below.refl wz.heap.size w1) hs1 _).trans (grown_lowN (hown1.alloc (.cells #[.int .i64 x] 3)) (by rw [World.size_alloc]; omega) hg2)); have hs2 := hb2.size; rw [show numCells (S.take p) ++ [.int .i64 x] = numCells (S.take p ++ [x]) by simp [numCells]] at hown2) | (at_builtin; refine wpList_append_nums _ rfl _ _ rfl wz.heap.size v2 (p + 1) (S.take p ++ [x]) rfl hown2 (some ⟨g', off' + p, none⟩) (n - p) (oc - p) (S.drop p) rfl HL2.out ((HAT.out.below hb2 (Nat.le_refl _)).back p) (by omega) hs2 ?_; intro v3 w3 hown3 hg3; have hb3 := hb2.trans (grown_lowN hown2 hs2 hg3)) | fail)
              have HLL := Lib.hid (show (S.take p ++ [x] ++ S.drop p).length = p + 1 + (n - p) by simp only [List.length_append, List.length_cons, List.length_nil, HL1.out, HL2.out])
              go_roundw
              case rel =>
                refine ⟨k + 1, by omega, by go_num, ?_, btr hB (btr hBz hb3)⟩
                rw [HX.out, HSS.out, HLL.out]
                exact owns_low hown3 (Nat.le_trans hsz hBz.size)
              case measure => simp [intOf]; omega
        · obtain rfl : p = n := by omega
          have hjn : ¬ (p : Int) < (p : Int) := by omega
          have hah := ahead_unique x S p (by rw [HNN.out]; omega) HPX.out (fun h => absurd h (by rw [HNN.out]; omega))
          have HSS := Lib.hid (show ins x S = S.take p ++ [x] ++ S.drop p from by
            have := ins_new x S (fun h => absurd h (by rw [← hah, HNN.out]; omega))
            rw [← hah] at this
            rw [this, List.append_assoc]
            rfl)
          clear hah eL
          go_wp2_with fail
          go_quiet (fail)
          have eL2 : (wr.drewN nq).cell? ⟨g, off + k, none⟩ = some (.int .i64 x) := eL1
          have hBq := below_drewN hBp nq
          generalize wr.drewN nq = wq at eL2 hBq ⊢
          go_wp2_with fail
          go_quiet (fail)
          have eL3 : (wq.drewN nq).cell? ⟨g, off + k, none⟩ = some (.int .i64 x) := eL2
          have hBz := below_drewN hBq nq
          clear eL2 hBq eL1
          generalize wq.drewN nq = wz at eL3 hBz ⊢
          have hgz : g < wz.heap.size := Nat.lt_of_lt_of_le hgw hBz.size
          have l1 : (S.take p).length = p := by rw [List.length_take, HNN.out]; omega
          have l2 : S.drop p = [] := List.drop_of_length_le (by rw [HNN.out]; exact Nat.le_refl _)
          have HL1 := Lib.hid l1
          have HL2 := Lib.hid l2
          have hown0 : wz.ownsRow wz.heap.size 3 1 (.slice none 0 0) 0 (numCells []) := World.ownsRow_nil _ _ _ _
          have HLL := Lib.hid (show (S.take p ++ [x] ++ S.drop p).length = p + 1 by rw [l2, List.append_nil, List.length_append, l1]; rfl)
          clear l1 l2
          cases oo with
          | none =>
            have hz : p = 0 ∧ oc = 0 := by
              rcases hown.2 with ⟨e, _⟩ | ⟨g2, c2, cur, e, _⟩
              · cases e; exact ⟨rfl, rfl⟩
              · cases e
            obtain ⟨rfl, rfl⟩ := hz
            have hnil : ∀ W : World, IAt W none [] 0 := fun _ h => absurd h (Nat.lt_irrefl 0)
            clear HA HT HN HO HPX
            go_wp2_with (first | (at_builtin; refine wpList_append_nums _ rfl _ _ rfl wz.heap.size (.slice none 0 0) 0 [] rfl hown0 none 0 0 [] rfl rfl (hnil _) (by omega) (Nat.le_refl _) ?_; intro v1 w1 hown1 hg1; have hb1 := grown_lowN hown0 (Nat.le_refl _) hg1; have hs1 := hb1.size; have eL4 : w1.cell? ⟨g, off + k, none⟩ = some (.int .i64 x) := (hb1.cell (p := ⟨g, _, none⟩) hgz).trans eL3; rw [Nat.zero_add, List.nil_append] at hown1) | (at_builtin; refine wpList_append_own _ rfl _ _ 22 rfl wz.heap.size 3 ii (.int .i64 0) 1 8 Try.underlying22 hi hz0 hz1 hz2 rfl (by decide) v1 0 (numCells []) rfl (hown1.alloc (.cells #[.int .i64 x] 3)) ⟨w1.heap.size, 0, none⟩ 1 1 [.int .i64 x] rfl rfl (cell_one_new _ _ _) (by simp [Value.oneCell']) (by unfold maxLen; omega) (by omega) (by rw [World.size_alloc]; omega) ?_; intro v2 w2 hown2 hg2 _; have hb2 := hb1.trans ((Below.alloc (Below.refl wz.heap.size w1) hs1 _).trans (grown_lowN (hown1.alloc (.cells #[.int .i64 x] 3)) (by rw [World.size_alloc]; omega) hg2)); have hs2 := hb2.size; rw [show numCells [] ++ [.int .i64 x] = numCells ([] ++ [x]) by simp [numCells]] at hown2) | (at_builtin; refine wpList_append_nums _ rfl _ _ rfl wz.heap.size v2 (0 + 1) ([] ++ [x]) rfl hown2 none 0 0 [] rfl rfl (hnil _) (by omega) hs2 ?_; intro v3 w3 hown3 hg3; have hb3 := hb2.trans (grown_lowN hown2 hs2 hg3)) | fail)
            go_roundw
            case rel =>
              refine ⟨k + 1, by omega, by go_num, ?_, btr hB (btr hBz hb3)⟩
              rw [HX.out, HSS.out, HLL.out, HL2.out]
              exact owns_low hown3 (Nat.le_trans hsz hBz.size)
            case measure => simp [intOf]; omega
          | some a =>
            obtain ⟨g2, rfl, hg2⟩ : ∃ g2, a = ⟨g2, 0, none⟩ ∧ g2 < wo.heap.size := by
              rcases hown.2 with ⟨e, _⟩ | ⟨g2, c2, cur, e, _, hb, _⟩
              · cases e
              · cases e; exact ⟨g2, rfl, lt_of_block hb⟩
            have hatz : IAt wz (some ⟨g2, 0, none⟩) S wz.heap.size := fun hp => ⟨g2, 0, rfl, Nat.lt_of_lt_of_le hg2 hBz.size, fun i hi => by
              obtain ⟨g3, off3, e, _, hc2⟩ := HO.out (by rw [HNN.out] at hp; omega)
              cases e
              exact hc2 i (by rw [HNN.out] at hi; exact hi) wz hBz⟩
            have HAT := Lib.hid hatz
            have hnil : ∀ (W : World) (b : Option Addr), IAt W b [] 0 := fun _ _ h => absurd h (Nat.lt_irrefl 0)
            have hp1 : (p : Int) ≤ (oc : Int) := by omega
            clear HA HT HN HO HPX hatz
            by_cases hz : oc = p
            · subst hz
              go_wp2_with (first | (at_builtin; refine wpList_append_nums _ rfl _ _ rfl wz.heap.size (.slice none 0 0) 0 [] rfl hown0 (some ⟨g2, 0, none⟩) oc oc (S.take oc) rfl HL1.out (HAT.out.front oc) (by omega) (Nat.le_refl _) ?_; intro v1 w1 hown1 hg1; have hb1 := grown_lowN hown0 (Nat.le_refl _) hg1; have hs1 := hb1.size; have eL4 : w1.cell? ⟨g, off + k, none⟩ = some (.int .i64 x) := (hb1.cell (p := ⟨g, _, none⟩) hgz).trans eL3; rw [Nat.zero_add, List.nil_append] at hown1) | (at_builtin; refine wpList_append_own _ rfl _ _ 22 rfl wz.heap.size 3 ii (.int .i64 0) 1 8 Try.underlying22 hi hz0 hz1 hz2 rfl (by decide) v1 oc (numCells (S.take oc)) rfl (hown1.alloc (.cells #[.int .i64 x] 3)) ⟨w1.heap.size, 0, none⟩ 1 1 [.int .i64 x] rfl rfl (cell_one_new _ _ _) (by simp [Value.oneCell']) (by unfold maxLen; omega) (by omega) (by rw [World.size_alloc]; omega) ?_; intro v2 w2 hown2 hg2 _; have hb2 := hb1.trans ((Below.alloc (Below.refl wz.heap.size w1) hs1 _).trans (grown_lowN (hown1.alloc (.cells #[.int .i64 x] 3)) (by rw [World.size_alloc]; omega) hg2)); have hs2 := hb2.size; rw [show numCells (S.take oc) ++ [.int .i64 x] = numCells (S.take oc ++ [x]) by simp [numCells]] at hown2) | (at_builtin; refine wpList_append_nums _ rfl _ _ rfl wz.heap.size v2 (oc + 1) (S.take oc ++ [x]) rfl hown2 (some ⟨g2, 0, none⟩) 0 0 [] rfl rfl (hnil _ _) (by omega) hs2 ?_; intro v3 w3 hown3 hg3; have hb3 := hb2.trans (grown_lowN hown2 hs2 hg3)) | fail)
              go_roundw
              case rel =>
                refine ⟨k + 1, by omega, by go_num, ?_, btr hB (btr hBz hb3)⟩
                rw [HX.out, HSS.out, HLL.out, HL2.out]
                exact owns_low hown3 (Nat.le_trans hsz hBz.size)
              case measure => simp [intOf]; omega
            · go_wp2_with (first | (at_builtin; refine wpList_append_nums _ rfl _ _ rfl wz.heap.size (.slice none 0 0) 0 [] rfl hown0 (some ⟨g2, 0, none⟩) p oc (S.take p) rfl HL1.out (HAT.out.front p) (by omega) (Nat.le_refl _) ?_; intro v1 w1 hown1 hg1; have hb1 := grown_lowN hown0 (Nat.le_refl _) hg1; have hs1 := hb1.size; have eL4 : w1.cell? ⟨g, off + k, none⟩ = some (.int .i64 x) := (hb1.cell (p := ⟨g, _, none⟩) hgz).trans eL3; rw [Nat.zero_add, List.nil_append] at hown1) | (at_builtin; refine wpList_append_own _ rfl _ _ 22 rfl wz.heap.size 3 ii (.int .i64 0) 1 8 Try.underlying22 hi hz0 hz1 hz2 rfl (by decide) v1 p (numCells (S.take p)) rfl (hown1.alloc (.cells #[.int .i64 x] 3)) ⟨w1.heap.size, 0, none⟩ 1 1 [.int .i64 x] rfl rfl (cell_one_new _ _ _) (by simp [Value.oneCell']) (by unfold maxLen; omega) (by omega) (by rw [World.size_alloc]; omega) ?_; intro v2 w2 hown2 hg2 _; have hb2 := hb1.trans ((Below.alloc (Below.refl wz.heap.size w1) hs1 _).trans (grown_lowN (hown1.alloc (.cells #[.int .i64 x] 3)) (by rw [World.size_alloc]; omega) hg2)); have hs2 := hb2.size; rw [show numCells (S.take p) ++ [.int .i64 x] = numCells (S.take p ++ [x]) by simp [numCells]] at hown2) | (at_builtin; refine wpList_append_nums _ rfl _ _ rfl wz.heap.size v2 (p + 1) (S.take p ++ [x]) rfl hown2 (some ⟨g2, p, none⟩) 0 (oc - p) [] rfl rfl (hnil _ _) (by omega) hs2 ?_; intro v3 w3 hown3 hg3; have hb3 := hb2.trans (grown_lowN hown2 hs2 hg3)) | fail)
              go_roundw
              case rel =>
                refine ⟨k + 1, by omega, by go_num, ?_, btr hB (btr hBz hb3)⟩
                rw [HX.out, HSS.out, HLL.out, HL2.out]
                exact owns_low hown3 (Nat.le_trans hsz hBz.size)
              case measure => simp [intOf]; omega
    · obtain rfl : k = len := by omega
      rw [HE.out] at hown
      have HAT := Lib.hid hown
      have hkk : ¬ (k : Int) < (k : Int) := by omega
      clear HA HT HN hown
      go_wp2
      go_ret
      exact ⟨_, rfl, HAT.out, hB⟩
theorem refsort_any (ao : Option Addr) (len cap : Nat) (L : List Int) (hl : L.length = len) (hm : len ≤ 1000000) (w : World) (hA : IAt w ao L w.heap.size) :
    Calls Try.prog 13 #[.slice ao len cap] w fun e w' => ∃ oo oc, e = .returned (.slice oo (srt L).length oc) ∧ (srt L).length ≤ oc ∧ oc ≤ maxLen ∧ IAt w' oo (srt L) w'.heap.size ∧ Below w.heap.size w w' :=
  (refsort_own ao len cap L hl hm w hA).mono fun _ _ ⟨_, he, ho, hb⟩ => by
    obtain ⟨oo, oc, rfl, h1, h2, h3⟩ := IAt.of_owns ho
    exact ⟨oo, oc, he, h1, h2, h3, hb⟩
end Go.Proofs.Ytbnnfhpphelmfaa
