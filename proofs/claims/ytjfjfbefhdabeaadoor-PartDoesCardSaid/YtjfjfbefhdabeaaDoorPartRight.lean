/-
  The walk of the reference's Right: whether a row of sets is a partition; nothing that was there before the call has changed. Conditions: the sets lie in memory as a slice, fewer than 2^40 of them.
-/
import Derived.Test.YtjfjfbefhdabeaaDoorPartIs
import Derived.Test.YtjfjfbefhdabeaaDoorPartMap
namespace Go.Proofs.YtjfjfbefhdabeaaDoor
open Go.RowKit

set_option maxRecDepth 100000 in
set_option maxHeartbeats 4000000 in
theorem right_any (ao : Option Addr) (len cap : Nat) (P : List (Nat → Bool)) (hl : P.length = len) (hlen : len ≤ 1099511627776) (w : World) (hS : SAt w ao P w.heap.size) :
    Calls Tryd.prog 26 #[.slice ao len cap] w fun e w' => e = .returned (.bool (partB P)) ∧ Below w.heap.size w w' := by
  have HL := Lib.hid hl
  have HS := Lib.hid hS
  clear hl hS
  go_enter Tryd.func26, Tryd.ntmps26
  go_wp2
  go_loopw [3, 4] (fun x b wr => ∃ k : Nat, k ≤ 256 ∧ b = .int .i64 k ∧ x = .int .i64 ((nx (fi P) k : Nat) : Int) ∧ Hid (RowsTo P k) ∧ Below w.heap.size w wr)
    (fun _ b _ => 256 - (intOf b).toNat)
  case atStart => exact ⟨0, by decide, rfl, rfl, Lib.hid (RowsTo.zero P), Below.refl _ _⟩
  case round =>
    obtain ⟨k, hk, rfl, rfl, hrows, hB⟩ := hrel
    by_cases hlt : k < 256
    · have hm := nx_le (fi P) k hrows.out.rgs
      have h0 := Lib.hid (Row1.zero P k (nx (fi P) k))
      have hstep := Lib.hid (fun x => RowsTo.step (P := P) (b := k) (x := x) hrows.out)
      have hfar := Lib.hid (fun i n x => Row1.far (P := P) (b := k) (i := i) (n := n) (x := x))
      have hnot := Lib.hid (fun n x => Row1.not1 (P := P) (b := k) (m := nx (fi P) k) (n := n) (x := x))
      generalize hm0 : nx (fi P) k = m at *
      clear hm0
      generalize wr = wo at *
      have hlti : (k : Int) < 256 := by omega
      go_wp2
      go_loopw [3, 5, 6] (fun x n i wr => ∃ (i0 n0 x0 : Nat), i0 ≤ len ∧ i = .int .i64 i0 ∧ n = .int .i64 n0 ∧ x = .int .i64 x0 ∧ Hid (Row1 P k m i0 n0 x0) ∧ Below wo.heap.size wo wr)
        (fun _ _ i _ => len - (intOf i).toNat)
      case atStart => exact ⟨0, 0, m, Nat.zero_le _, rfl, rfl, rfl, h0, Below.refl _ _⟩
      case round =>
        obtain ⟨i, n, x, hi, rfl, rfl, rfl, hrow, hbi⟩ := hrel
        have hn := hrow.out.le
        have hx := hrow.out.xle
        by_cases hil : i < len
        · obtain ⟨g, off, rfl, hg, hc⟩ := HS.out (by rw [HL.out]; omega)
          obtain ⟨s0, s1, s2, s3⟩ := (hc i (by rw [HL.out]; exact hil)).below (btr hB hbi) hg
          have hlack := Lib.hid (fun e : P.getD i no k = false => hrow.out.lacks e)
          have hhas := Lib.hid (fun e : P.getD i no k = true => hrow.out.has e)
          have hbad := Lib.hid (fun (e : P.getD i no k = true) hxi => hfar.out i n x hrow.out hlt (by rw [HL.out]; exact hil) e hxi)
          clear hc
          generalize P.getD i no = S at s0 s1 s2 s3 hlack hhas hbad
          have hili : (i : Int) < (len : Int) := by omega
          have hw1 : IntKind.i64.wrap ((n : Int) + 1) = (n : Int) + 1 := IntWalk.i64_in _ (by omega)
          have hw2 : IntKind.i64.wrap ((x : Int) + 1) = (x : Int) + 1 := IntWalk.i64_in _ (by omega)
          go_wp2_with fail
          refine (refhas_any S k (by omega) wr).mono ?_
          cases hs : S k with
          | false =>
            have hrow' := Lib.hid (hlack.out hs)
            rintro e w2 ⟨rfl, hb2⟩
            have hb3 := btr hbi hb2
            clear s0 s1 s2 s3 hlack hhas hbad hs hbi hb2 hrow
            go_wp2
            go_roundw
            case rel => exact ⟨i + 1, n, x, by omega, by go_num, rfl, rfl, hrow', hb3⟩
            case measure => simp [intOf]; omega
          | true =>
            by_cases hix : i ≤ x
            · have hrow' := Lib.hid (hhas.out hs hix)
              by_cases hex : i = x
              · subst hex
                rintro e w2 ⟨rfl, hb2⟩
                have hb3 := btr hbi hb2
                clear s0 s1 s2 s3 hlack hhas hbad hs hbi hb2 hrow
                go_wp2
                go_roundw
                case rel => exact ⟨i + 1, n + 1, i + 1, by omega, by go_num, by go_num, by go_num, by have := hrow'.out; rw [show max i (i + 1) = i + 1 by omega] at this; exact Lib.hid this, hb3⟩
                case measure => simp [intOf]; omega
              · have hd1 : decide ((x : Int) < (i : Int)) = false := decide_eq_false (by omega)
                have hd2 : ((i : Int) == (x : Int)) = false := by simp; omega
                rintro e w2 ⟨rfl, hb2⟩
                have hb3 := btr hbi hb2
                clear s0 s1 s2 s3 hlack hhas hbad hs hbi hb2 hrow
                go_wp2
                go_roundw
                case rel => exact ⟨i + 1, n + 1, x, by omega, by go_num, by go_num, rfl, by have := hrow'.out; rw [show max x (i + 1) = x by omega] at this; exact Lib.hid this, hb3⟩
                case measure => simp [intOf]; omega
            · have hp := Lib.hid (partB_f (hbad.out hs (by omega)))
              have hd1 : decide ((x : Int) < (i : Int)) = true := decide_eq_true (by omega)
              rintro e w2 ⟨rfl, hb2⟩
              have hb3 := btr hB (btr hbi hb2)
              clear s0 s1 s2 s3 hlack hhas hbad hs hbi hb2 hrow
              go_wp2
              go_ret
              exact ⟨congrArg (fun b => Ending.returned (Value.bool b)) hp.out.symm, hb3⟩
        · obtain rfl : i = len := by omega
          by_cases hn1 : n = 1
          · subst hn1
            obtain ⟨hr1, hx1⟩ := hstep.out x (by rw [HL.out]; exact hrow.out)
            have hb3 := btr hB hbi
            go_wp2
            go_roundw
            case rel => exact ⟨k + 1, by omega, by go_num, by rw [hx1], Lib.hid hr1, hb3⟩
            case measure => simp [intOf]; omega
          · have hp := Lib.hid (partB_f (hnot.out n x (by rw [HL.out]; exact hrow.out) hlt hn1))
            have hd : ((n : Int) == 1) = false := by simp; omega
            have hd' : ((n : Int) != 1) = true := by simp; omega
            have hb3 := btr hB hbi
            go_wp2
            go_ret
            exact ⟨congrArg (fun b => Ending.returned (Value.bool b)) hp.out.symm, hb3⟩
    · obtain rfl : k = 256 := by omega
      have hp := Lib.hid hrows.out.end
      rw [HL.out] at hp
      clear hrows
      by_cases he : nx (fi P) 256 = len
      · have hd : (((nx (fi P) 256 : Nat) : Int) == (len : Int)) = true := by simp; omega
        have hq : partB P = true := hp.out.trans (decide_eq_true he)
        have HQ := Lib.hid hq
        clear hp hq he
        go_wp2
        go_ret
        exact ⟨congrArg (fun b => Ending.returned (Value.bool b)) HQ.out.symm, hB⟩
      · have hd : (((nx (fi P) 256 : Nat) : Int) == (len : Int)) = false := by simp; omega
        have hq : partB P = false := hp.out.trans (decide_eq_false he)
        have HQ := Lib.hid hq
        clear hp hq he
        go_wp2
        go_ret
        exact ⟨congrArg (fun b => Ending.returned (Value.bool b)) HQ.out.symm, hB⟩
end Go.Proofs.YtjfjfbefhdabeaaDoor
