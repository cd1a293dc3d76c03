/-
  The walk of package part's isPartition: whether a row of sets is a partition; nothing that was there before the call has changed. Conditions: the sets lie in memory as a slice, fewer than 2^40 of them; the table of math/bits as it is laid.
-/
import Derived.Test.YtjfjfbefhdabeaaDoorPartIs
import Derived.Test.YtjfjfbefhdabeaaDoorPartMap
import Derived.Deep.QuietTactic
import Derived.BigQuiet
namespace Go.Proofs.YtjfjfbefhdabeaaDoor
open Go.RowKit

theorem OkTo.step {P : List (Nat → Bool)} {k : Nat} (h : OkTo P k) (hk : k < P.length) (h1 : nxt (P.getD k no) 0 < 256) (h2 : ∀ j, j + 1 = k → nxt (P.getD j no) 0 ≤ nxt (P.getD k no) 0) (h3 : eqs (cand (uni P k) (P.getD k no)) no = true) : OkTo P (k + 1) := by
  have h3' := (eqs_iff _ _).1 h3
  refine ⟨fun i hi => ?_, fun i hi => ?_, fun i j hij hj b hb e1 e2 => ?_⟩
  · by_cases e : i = k
    · subst e; exact h1
    · exact h.some i (by omega)
  · by_cases e : i + 1 = k
    · rw [e]; exact h2 i e
    · exact h.up i (by omega)
  · by_cases e : j = k
    · subst e
      have := h3' b hb
      unfold cand at this
      rw [e2, (uni_iff P j (by omega) b).2 ⟨i, hij, e1⟩] at this
      cases this
    · exact h.apart i j hij (by omega) b hb e1 e2
theorem bad_some {P : List (Nat → Bool)} {k : Nat} (hk : k < P.length) (h : ¬ nxt (P.getD k no) 0 < 256) : ¬ IsPart P := fun hp => h ((Pt.okTo hp (k + 1) hk).some k (by omega))
theorem bad_up {P : List (Nat → Bool)} {k j : Nat} (hk : k < P.length) (hj : j + 1 = k) (h : nxt (P.getD k no) 0 < nxt (P.getD j no) 0) : ¬ IsPart P := fun hp => by
  subst hj
  have := (Pt.okTo hp (j + 1 + 1) hk).up j (by omega)
  omega
theorem bad_apart {P : List (Nat → Bool)} {k : Nat} (hk : k < P.length) (h : eqs (cand (uni P k) (P.getD k no)) no = false) : ¬ IsPart P := fun hp => by
  have : eqs (cand (uni P k) (P.getD k no)) no = true := by
    rw [eqs_iff]
    intro b hb
    unfold cand
    cases e1 : uni P k b with
    | false => rfl
    | true =>
      cases e2 : P.getD k no b with
      | false => rfl
      | true =>
        obtain ⟨i, hi, e⟩ := (uni_iff P k (by omega) b).1 e1
        exact ((Pt.okTo hp (k + 1) hk).apart i k hi (by omega) b hb e e2).elim
  rw [this] at h; cases h
theorem cnt_full (S : Nat → Bool) : ∀ n, cnt S n = n ↔ ∀ b, b < n → S b = true
  | 0 => ⟨fun _ b h => by omega, fun _ => rfl⟩
  | n + 1 => by
    have h1 := cnt_le S n
    have h2 := cnt_full S n
    rw [cnt]
    constructor
    · intro h b hb
      cases e : S n with
      | true =>
        rw [e] at h
        by_cases eb : b = n
        · subst eb; exact e
        · exact h2.1 (by simp at h; omega) b (by omega)
      | false => rw [e] at h; simp at h; omega
    · intro h
      rw [h n (by omega), h2.2 fun b hb => h b (by omega)]
      simp
theorem OkTo.end {P : List (Nat → Bool)} (h : OkTo P P.length) : partB P = decide (sz (uni P P.length) = 256) := by
  by_cases e : sz (uni P P.length) = 256
  · rw [decide_eq_true e, partB_iff]
    exact isPart_of h ((cnt_full _ 256).1 e)
  · rw [decide_eq_false e]
    exact partB_f fun hp => e ((cnt_full _ 256).2 (Pt.all hp))

theorem first_some (S : Nat → Bool) (h : nxt S 0 < 256) (w : World) (hT : Tab w) :
    Calls Tryd.prog 31 #[sv S] w fun e w' => e = .returned (.tuple #[.int .u8 ((nxt S 0 : Nat) : Int), .bool true]) ∧ Below w.heap.size w w' := by
  refine (first_any S w hT).mono ?_
  rw [decide_eq_true h, if_neg (show ¬ nxt S 0 = 256 by omega)]
  exact fun e w' h => h
theorem first_none (S : Nat → Bool) (h : ¬ nxt S 0 < 256) (w : World) (hT : Tab w) :
    Calls Tryd.prog 31 #[sv S] w fun e w' => e = .returned (.tuple #[.int .u8 0, .bool false]) ∧ Below w.heap.size w w' := by
  refine (first_any S w hT).mono ?_
  have := (nxt_spec S 0 (by decide)).2.1
  rw [decide_eq_false h, if_pos (show nxt S 0 = 256 by omega)]
  exact fun e w' h => h

theorem lowA (w : World) (b8 : Nat) (u0 u1 u2 u3 : Value) : Below b8 w ((((w.setCell ⟨b8, 0, none⟩ u0).setCell ⟨b8, 1, none⟩ u1).setCell ⟨b8, 2, none⟩ u2).setCell ⟨b8, 3, none⟩ u3) :=
  ((((Below.refl b8 w).setCell (p := ⟨b8, 0, none⟩) (Nat.le_refl _) u0).setCell (p := ⟨b8, 1, none⟩) (Nat.le_refl _) u1).setCell (p := ⟨b8, 2, none⟩) (Nat.le_refl _) u2).setCell (p := ⟨b8, 3, none⟩) (Nat.le_refl _) u3
theorem setA {w : World} {b8 : Nat} {A : Nat → Bool} (h : Blk w b8 35 (cells4 A)) (T : Nat → Bool) :
    Blk ((((w.setCell ⟨b8, 0, none⟩ (.int .u64 ((wd T 0 : Nat) : Int))).setCell ⟨b8, 1, none⟩ (.int .u64 ((wd T 1 : Nat) : Int))).setCell ⟨b8, 2, none⟩ (.int .u64 ((wd T 2 : Nat) : Int))).setCell ⟨b8, 3, none⟩ (.int .u64 ((wd T 3 : Nat) : Int))) b8 35 (cells4 T) :=
  (((h.set 0 _).set 1 _).set 2 _).set 3 _

set_option maxRecDepth 100000 in
set_option maxHeartbeats 4000000 in
theorem isPart_any (ao : Option Addr) (len cap : Nat) (P : List (Nat → Bool)) (hl : P.length = len) (hlen : len ≤ 1099511627776) (w : World) (hT : Tab w) (hS : SAt w ao P w.heap.size) :
    Calls Tryd.prog 24 #[.slice ao len cap] w fun e w' => e = .returned (.bool (partB P)) ∧ Below w.heap.size w w' := by
  have HL := Lib.hid hl
  have HS := Lib.hid hS
  have hgd := guard25
  have hB0 := bal (Below.refl w.heap.size w) (.cells zero4 35)
  have hA0 : Blk (w.alloc (.cells zero4 35)) w.heap.size 35 (cells4 (uni P 0)) := Blk.new _ _ _
  have hT0 := hT.below' hB0
  have HGT := Lib.hid hT.lt
  clear hl hS hT
  go_enter Tryd.func24, Tryd.ntmps24
  go_wp2
  go_loopw [4, 11] (fun z i wr => ∃ (k : Nat) (y : Int), k ≤ len ∧ i = .int .i64 k ∧ z = .int .i64 y ∧ -1 ≤ y ∧ y ≤ 256 ∧ Hid (OkTo P k) ∧ Hid ((k = 0 → y = -1) ∧ ∀ j, j + 1 = k → y = ((nxt (P.getD j no) 0 : Nat) : Int)) ∧ Blk wr w.heap.size 35 (cells4 (uni P k)) ∧ Tab wr ∧ Below w.heap.size w wr)
    (fun _ i _ => len - (intOf i).toNat)
  case atStart => exact ⟨0, -1, Nat.zero_le _, rfl, rfl, by decide, by decide, Lib.hid (OkTo.zero P), Lib.hid ⟨fun _ => rfl, fun j h => by omega⟩, hA0, hT0, hB0⟩
  case round =>
    clear hA0 hT0 hB0
    obtain ⟨k, y, hk, rfl, rfl, hy1, hy2, hok, hys, hA, hT, hB⟩ := hrel
    by_cases hlt : k < len
    · obtain ⟨g, off, rfl, hg, hc⟩ := HS.out (by rw [HL.out]; omega)
      have hkP : k < P.length := by rw [HL.out]; exact hlt
      obtain ⟨s0, s1, s2, s3⟩ := (hc k hkP).below hB hg
      have hst := Lib.hid (hok.out.step hkP)
      have hb1 := Lib.hid (bad_some hkP)
      have hb2 := Lib.hid (fun j => bad_up (j := j) hkP)
      have hb3 := Lib.hid (bad_apart hkP)
      have hu := Lib.hid (uni_step P k hkP)
      clear hc hkP
      generalize hPS0 : P.getD k no = S at s0 s1 s2 s3 hst hb1 hb2 hb3 hu
      have HPS := Lib.hid hPS0
      clear hPS0
      generalize uni P k = A at hA hst hb3 hu
      have hlti : (k : Int) < (len : Int) := by omega
      have hBx := bal hB (.cells (cells4 S) 35)
      have hTx := hT.below' (bal (Below.refl _ _) (.cells (cells4 S) 35))
      have hSx := Blk.new wr 35 (cells4 S)
      have hAx := hA.alloc (.cells (cells4 S) 35)
      generalize hn1 : nxt S 0 = n1 at *
      have HN1 := Lib.hid hn1
      clear hn1
      by_cases h1 : n1 < 256
      · go_wp2_with fail
        refine (first_some S (by rw [HN1.out]; exact h1) _ hTx).mono ?_
        rw [HN1.out]
        rintro e w1 ⟨rfl, hx1⟩
        have hA1 := hAx.below hx1 hAx.lt
        have hS1 := hSx.below hx1 hSx.lt
        have hT1 := hTx.below' hx1
        have hB1 := btr hBx hx1
        clear hAx hSx hTx hBx hx1 hA hT hB s0 s1 s2 s3 hb1
        by_cases h2 : (n1 : Int) < y
        · have hd : decide ((n1 : Int) < y) = true := decide_eq_true h2
          have hbad : ¬ IsPart P := by
            have hk0 : k ≠ 0 := fun e => by have := hys.out.1 e; omega
            have := hys.out.2 (k - 1) (by omega)
            exact hb2.out (k - 1) (by omega) (by omega)
          have hp := Lib.hid (partB_f hbad)
          clear hbad hst hb2 hb3 hys
          go_wp2
          go_ret
          exact ⟨congrArg (fun b => Ending.returned (Value.bool b)) hp.out.symm, hB1⟩
        · have hd : decide ((n1 : Int) < y) = false := decide_eq_false h2
          obtain ⟨a0, a1, a2, a3⟩ := hA1.cells
          obtain ⟨s0, s1, s2, s3⟩ := hS1.cells
          go_wp2_with fail
          refine (both_to A S _).mono ?_
          rintro e w2 ⟨rfl, hx2⟩
          have hA2 := hA1.below hx2 hA1.lt
          have hS2 := hS1.below hx2 hS1.lt
          have hT2 := hT1.below' hx2
          have hB2 := btr hB1 hx2
          clear hA1 hS1 hT1 hB1 hx2 s0 s1 s2 s3 a0 a1 a2 a3 hd
          have hq : ∀ w, (Op.equalIn 10000 35 (sv (cand A S)) (.agg zero4)).run Tryd.prog w = .ok (eqs (cand A S) no) w := fun w => eq_sets2 (cand A S) no w
          cases h3 : eqs (cand A S) no with
          | false =>
            have hp := Lib.hid (partB_f (hb3.out h3))
            rw [h3] at hq
            clear hst hb2 hb3 hys h3
            go_wp2
            go_ret
            exact ⟨congrArg (fun b => Ending.returned (Value.bool b)) hp.out.symm, hB2⟩
          | true =>
            have hok' := Lib.hid (hst.out h1 (fun j hj => by have := hys.out.2 j hj; omega) h3)
            rw [h3] at hq
            obtain ⟨a0, a1, a2, a3⟩ := hA2.cells
            obtain ⟨s0, s1, s2, s3⟩ := hS2.cells
            clear hst hb2 hb3 hys h3
            go_wp2_with fail
            refine (any_to A S _).mono ?_
            rintro e w3 ⟨rfl, hx3⟩
            have hA3 := hA2.below hx3 hA2.lt
            have hT3 := hT2.below' hx3
            have hB3 := btr hB2 hx3
            clear hA2 hS2 hT2 hB2 hx3 s0 s1 s2 s3 a0 a1 a2 a3 hq
            obtain ⟨a0, a1, a2, a3⟩ := hA3.cells
            have f0 := hA3.frozen 0
            have f1 := hA3.frozen 1
            have f2 := hA3.frozen 2
            have f3 := hA3.frozen 3
            go_wp2
            clear a0 a1 a2 a3 f0 f1 f2 f3
            have hlow := lowA w3 w.heap.size (.int .u64 ((wd (cor A S) 0 : Nat) : Int)) (.int .u64 ((wd (cor A S) 1 : Nat) : Int)) (.int .u64 ((wd (cor A S) 2 : Nat) : Int)) (.int .u64 ((wd (cor A S) 3 : Nat) : Int))
            have hys' : Hid ((k + 1 = 0 → (n1 : Int) = -1) ∧ ∀ j, j + 1 = k + 1 → (n1 : Int) = ((nxt (P.getD j no) 0 : Nat) : Int)) := Lib.hid ⟨fun h => by omega, fun j hj => by
              obtain rfl : j = k := by omega
              rw [HPS.out, HN1.out]⟩
            go_roundw
            case rel => exact ⟨k + 1, (n1 : Int), by omega, by go_num, rfl, by omega, by omega, hok', hys', by rw [hu.out]; exact setA hA3 _, hT3.below hlow HGT.out, hB3.trans hlow⟩
            case measure => simp [intOf]; omega
      · have hp := Lib.hid (partB_f (hb1.out h1))
        clear hst hb1 hb2 hb3 hys
        go_wp2_with fail
        refine (first_none S (by rw [HN1.out]; exact h1) _ hTx).mono ?_
        rintro e w1 ⟨rfl, hx1⟩
        have hB1 := btr hBx hx1
        clear hAx hSx hTx hBx hx1 hA hT hB s0 s1 s2 s3
        go_wp2
        go_ret
        exact ⟨congrArg (fun b => Ending.returned (Value.bool b)) hp.out.symm, hB1⟩
    · obtain rfl : k = len := by omega
      have hend : partB P = decide (sz (uni P k) = 256) := by
        have h0 := hok.out
        rw [← HL.out] at h0 ⊢
        exact h0.end
      obtain ⟨a0, a1, a2, a3⟩ := hA.cells
      have hsz := sz_le (uni P k)
      have HE := Lib.hid hend
      clear hend hok hys hT
      go_wp2_with fail
      refine (size_to (uni P k) _).mono ?_
      rintro e w1 ⟨rfl, hx1⟩
      have hB1 := btr hB hx1
      clear hA hB hx1 a0 a1 a2 a3
      generalize sz (uni P k) = s at *
      by_cases h1 : s = 256
      · have hp := Lib.hid (HE.out.trans (decide_eq_true h1))
        have hd : ((s : Int) == 256) = true := by simp; omega
        clear HE
        go_wp2
        go_ret
        exact ⟨congrArg (fun b => Ending.returned (Value.bool b)) hp.out.symm, hB1⟩
      · have hp := Lib.hid (HE.out.trans (decide_eq_false h1))
        have hd : ((s : Int) == 256) = false := by simp; omega
        clear HE
        go_wp2
        go_ret
        exact ⟨congrArg (fun b => Ending.returned (Value.bool b)) hp.out.symm, hB1⟩
end Go.Proofs.YtjfjfbefhdabeaaDoor
