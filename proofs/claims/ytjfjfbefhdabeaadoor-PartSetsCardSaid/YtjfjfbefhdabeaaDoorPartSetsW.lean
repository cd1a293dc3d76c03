/-
  The walk of the statement PartSets: of any row of numbers, any row of sets and any set it returns true; nothing that was there before the call has changed. Conditions: the numbers and the sets lie in memory as slices; the table of math/bits as it is laid.
-/
import Derived.Test.YtjfjfbefhdabeaaDoorPartAns
import Derived.Test.YtjfjfbefhdabeaaDoorPartAwake
import Derived.Test.YtjfjfbefhdabeaaDoorPartSameR
namespace Go.Proofs.YtjfjfbefhdabeaaDoor
open Go.RowKit

set_option maxRecDepth 100000 in
set_option maxHeartbeats 2000000 in
theorem partSets_main (bo ao : Option Addr) (n bc len cap : Nat) (xs : List Int) (L : List (Nat → Bool)) (S : Nat → Bool) (hn : xs.length = n) (hl : L.length = len) (hlen2 : n ≤ 300) (hlen : len ≤ 30) (w : World) (hT : Tab w) (hX : IAt w bo xs w.heap.size) (hS : SAt w ao L w.heap.size) :
    Calls Tryd.prog 4 #[.slice bo n bc, .slice ao len cap, sv S] w fun e w' => e = .returned (.bool true) ∧ Below w.heap.size w w' := by
  have HL := Lib.hid hl
  have HN := Lib.hid hn
  have HT := Lib.hid hT
  have g1 : ¬ (300 : Int) < (n : Int) := by omega
  have g2 : ¬ (30 : Int) < (len : Int) := by omega
  have hB1 := bal (Below.refl w.heap.size w) (.cells (cells4 S) 35)
  have num1 := (hX.below hB1 (Nat.le_refl _)).mono hB1.size
  have arg1 := (hS.below hB1 (Nat.le_refl _)).mono hB1.size
  have box1 := Blk.new w 35 (cells4 S)
  clear hl hn hT hX hS
  go_enter Tryd.func4, Tryd.ntmps4
  go_wp2_with fail
  refine (sets_ans bo n bc xs HN.out _ num1).mono ?_
  rintro e w2 ⟨p2, c2, rfl, ra2, hb2⟩
  have box_2 := box1.below hb2 box1.lt
  have hB2 := btr hB1 hb2
  have num_2 := (num1.below hb2 (Nat.le_refl _)).mono hb2.size
  have arg_2 := (arg1.below hb2 (Nat.le_refl _)).mono hb2.size
  clear hB1 hb2 num1 arg1
  clear box1
  go_wp2_with fail
  refine (refsets_ans bo n bc xs HN.out (by omega) w2 num_2).mono ?_
  rintro e w3 ⟨p3, c3, rfl, rb3, hb3⟩
  have box_3 := box_2.below hb3 box_2.lt
  have hB3 := btr hB2 hb3
  have num_3 := (num_2.below hb3 (Nat.le_refl _)).mono hb3.size
  have arg_3 := (arg_2.below hb3 (Nat.le_refl _)).mono hb3.size
  have ra_3 := (ra2.below hb3 (Nat.le_refl _)).mono hb3.size
  clear hB2 hb3 num_2 arg_2 ra2
  clear box_2
  go_wp2_with fail
  refine (refparts_ans ao len cap L HL.out w3 arg_3).mono ?_
  rintro e w4 ⟨p4, c4, rfl, rp4, hb4⟩
  have box_4 := box_3.below hb4 box_3.lt
  have hB4 := btr hB3 hb4
  have num_4 := (num_3.below hb4 (Nat.le_refl _)).mono hb4.size
  have arg_4 := (arg_3.below hb4 (Nat.le_refl _)).mono hb4.size
  have ra_4 := (ra_3.below hb4 (Nat.le_refl _)).mono hb4.size
  have rb_4 := (rb3.below hb4 (Nat.le_refl _)).mono hb4.size
  clear hB3 hb4 num_3 arg_3 ra_3 rb3
  clear box_3
  obtain ⟨s0, s1, s2, s3⟩ := box_4.cells
  go_wp2_with fail
  clear s0 s1 s2 s3
  have hT5 := HT.out.below' hB4
  refine (over_ans p4 _ c4 (ptA L) S rfl (by have := ptA_le L; omega) w4 hT5 rp4).mono ?_
  rintro e w5 ⟨p5, c5, rfl, rc5, hb5⟩
  have box_5 := box_4.below hb5 box_4.lt
  have hB5 := btr hB4 hb5
  have num_5 := (num_4.below hb5 (Nat.le_refl _)).mono hb5.size
  have arg_5 := (arg_4.below hb5 (Nat.le_refl _)).mono hb5.size
  have ra_5 := (ra_4.below hb5 (Nat.le_refl _)).mono hb5.size
  have rb_5 := (rb_4.below hb5 (Nat.le_refl _)).mono hb5.size
  have rp_5 := (rp4.below hb5 (Nat.le_refl _)).mono hb5.size
  clear hB4 hb5 num_4 arg_4 ra_4 rb_4 rp4
  clear box_4
  obtain ⟨s0, s1, s2, s3⟩ := box_5.cells
  go_wp2_with fail
  clear s0 s1 s2 s3
  refine (refover_ans p4 _ c4 (ptA L) S rfl (by have := ptA_le L; omega) w5 rp_5).mono ?_
  rintro e w6 ⟨p6, c6, rfl, rd6, hb6⟩
  have box_6 := box_5.below hb6 box_5.lt
  have hB6 := btr hB5 hb6
  have num_6 := (num_5.below hb6 (Nat.le_refl _)).mono hb6.size
  have arg_6 := (arg_5.below hb6 (Nat.le_refl _)).mono hb6.size
  have ra_6 := (ra_5.below hb6 (Nat.le_refl _)).mono hb6.size
  have rb_6 := (rb_5.below hb6 (Nat.le_refl _)).mono hb6.size
  have rp_6 := (rp_5.below hb6 (Nat.le_refl _)).mono hb6.size
  have rc_6 := (rc5.below hb6 (Nat.le_refl _)).mono hb6.size
  clear hB5 hb6 num_5 arg_5 ra_5 rb_5 rp_5 rc5
  clear box_5
  obtain ⟨s0, s1, s2, s3⟩ := box_6.cells
  go_wp2_with fail
  clear s0 s1 s2 s3
  have hT7 := HT.out.below' hB6
  refine (over_ans ao len cap L S HL.out (by omega) w6 hT7 arg_6).mono ?_
  rintro e w7 ⟨p7, c7, rfl, re7, hb7⟩
  have box_7 := box_6.below hb7 box_6.lt
  have hB7 := btr hB6 hb7
  have num_7 := (num_6.below hb7 (Nat.le_refl _)).mono hb7.size
  have arg_7 := (arg_6.below hb7 (Nat.le_refl _)).mono hb7.size
  have ra_7 := (ra_6.below hb7 (Nat.le_refl _)).mono hb7.size
  have rb_7 := (rb_6.below hb7 (Nat.le_refl _)).mono hb7.size
  have rp_7 := (rp_6.below hb7 (Nat.le_refl _)).mono hb7.size
  have rc_7 := (rc_6.below hb7 (Nat.le_refl _)).mono hb7.size
  have rd_7 := (rd6.below hb7 (Nat.le_refl _)).mono hb7.size
  clear hB6 hb7 num_6 arg_6 ra_6 rb_6 rp_6 rc_6 rd6
  clear box_6
  obtain ⟨s0, s1, s2, s3⟩ := box_7.cells
  go_wp2_with fail
  clear s0 s1 s2 s3
  refine (refover_ans ao len cap L S HL.out (by omega) w7 arg_7).mono ?_
  rintro e w8 ⟨p8, c8, rfl, rf8, hb8⟩
  have box_8 := box_7.below hb8 box_7.lt
  have hB8 := btr hB7 hb8
  have num_8 := (num_7.below hb8 (Nat.le_refl _)).mono hb8.size
  have arg_8 := (arg_7.below hb8 (Nat.le_refl _)).mono hb8.size
  have ra_8 := (ra_7.below hb8 (Nat.le_refl _)).mono hb8.size
  have rb_8 := (rb_7.below hb8 (Nat.le_refl _)).mono hb8.size
  have rp_8 := (rp_7.below hb8 (Nat.le_refl _)).mono hb8.size
  have rc_8 := (rc_7.below hb8 (Nat.le_refl _)).mono hb8.size
  have rd_8 := (rd_7.below hb8 (Nat.le_refl _)).mono hb8.size
  have re_8 := (re7.below hb8 (Nat.le_refl _)).mono hb8.size
  clear hB7 hb8 num_7 arg_7 ra_7 rb_7 rp_7 rc_7 rd_7 re7
  clear box_7
  go_wp2_with fail
  have hT9 := HT.out.below' hB8
  refine (awake_part w8 hT9).mono ?_
  rintro e w9 ⟨rfl, hb9⟩
  have box_9 := box_8.below hb9 box_8.lt
  have hB9 := btr hB8 hb9
  have num_9 := (num_8.below hb9 (Nat.le_refl _)).mono hb9.size
  have arg_9 := (arg_8.below hb9 (Nat.le_refl _)).mono hb9.size
  have ra_9 := (ra_8.below hb9 (Nat.le_refl _)).mono hb9.size
  have rb_9 := (rb_8.below hb9 (Nat.le_refl _)).mono hb9.size
  have rp_9 := (rp_8.below hb9 (Nat.le_refl _)).mono hb9.size
  have rc_9 := (rc_8.below hb9 (Nat.le_refl _)).mono hb9.size
  have rd_9 := (rd_8.below hb9 (Nat.le_refl _)).mono hb9.size
  have re_9 := (re_8.below hb9 (Nat.le_refl _)).mono hb9.size
  have rf_9 := (rf8.below hb9 (Nat.le_refl _)).mono hb9.size
  clear hB8 hb9 num_8 arg_8 ra_8 rb_8 rp_8 rc_8 rd_8 re_8 rf8
  clear box_8
  go_wp2_with fail
  refine (same_any p2 p3 _ c2 c3 (sA xs) rfl (by have := sA_le xs; omega) w9 ra_9 rb_9).mono ?_
  rintro e w10 ⟨rfl, hb10⟩
  have box_10 := box_9.below hb10 box_9.lt
  have hB10 := btr hB9 hb10
  have num_10 := (num_9.below hb10 (Nat.le_refl _)).mono hb10.size
  have arg_10 := (arg_9.below hb10 (Nat.le_refl _)).mono hb10.size
  have ra_10 := (ra_9.below hb10 (Nat.le_refl _)).mono hb10.size
  have rb_10 := (rb_9.below hb10 (Nat.le_refl _)).mono hb10.size
  have rp_10 := (rp_9.below hb10 (Nat.le_refl _)).mono hb10.size
  have rc_10 := (rc_9.below hb10 (Nat.le_refl _)).mono hb10.size
  have rd_10 := (rd_9.below hb10 (Nat.le_refl _)).mono hb10.size
  have re_10 := (re_9.below hb10 (Nat.le_refl _)).mono hb10.size
  have rf_10 := (rf_9.below hb10 (Nat.le_refl _)).mono hb10.size
  clear hB9 hb10 num_9 arg_9 ra_9 rb_9 rp_9 rc_9 rd_9 re_9 rf_9
  clear box_9
  go_wp2_with fail
  refine (ints_any p5 p6 _ c5 c6 (oA (ptA L) S) rfl (by have := oA_le (ptA L) S; have := ptA_le L; omega) w10 rc_10 rd_10).mono ?_
  rintro e w11 ⟨rfl, hb11⟩
  have box_11 := box_10.below hb11 box_10.lt
  have hB11 := btr hB10 hb11
  have num_11 := (num_10.below hb11 (Nat.le_refl _)).mono hb11.size
  have arg_11 := (arg_10.below hb11 (Nat.le_refl _)).mono hb11.size
  have ra_11 := (ra_10.below hb11 (Nat.le_refl _)).mono hb11.size
  have rb_11 := (rb_10.below hb11 (Nat.le_refl _)).mono hb11.size
  have rp_11 := (rp_10.below hb11 (Nat.le_refl _)).mono hb11.size
  have rc_11 := (rc_10.below hb11 (Nat.le_refl _)).mono hb11.size
  have rd_11 := (rd_10.below hb11 (Nat.le_refl _)).mono hb11.size
  have re_11 := (re_10.below hb11 (Nat.le_refl _)).mono hb11.size
  have rf_11 := (rf_10.below hb11 (Nat.le_refl _)).mono hb11.size
  clear hB10 hb11 num_10 arg_10 ra_10 rb_10 rp_10 rc_10 rd_10 re_10 rf_10
  clear box_10
  go_wp2_with fail
  refine (ints_any p7 p8 _ c7 c8 (oA L S) rfl (by have := oA_le L S; have := HL.out; omega) w11 re_11 rf_11).mono ?_
  rintro e w12 ⟨rfl, hb12⟩
  have box_12 := box_11.below hb12 box_11.lt
  have hB12 := btr hB11 hb12
  have num_12 := (num_11.below hb12 (Nat.le_refl _)).mono hb12.size
  have arg_12 := (arg_11.below hb12 (Nat.le_refl _)).mono hb12.size
  have ra_12 := (ra_11.below hb12 (Nat.le_refl _)).mono hb12.size
  have rb_12 := (rb_11.below hb12 (Nat.le_refl _)).mono hb12.size
  have rp_12 := (rp_11.below hb12 (Nat.le_refl _)).mono hb12.size
  have rc_12 := (rc_11.below hb12 (Nat.le_refl _)).mono hb12.size
  have rd_12 := (rd_11.below hb12 (Nat.le_refl _)).mono hb12.size
  have re_12 := (re_11.below hb12 (Nat.le_refl _)).mono hb12.size
  have rf_12 := (rf_11.below hb12 (Nat.le_refl _)).mono hb12.size
  clear hB11 hb12 num_11 arg_11 ra_11 rb_11 rp_11 rc_11 rd_11 re_11 rf_11
  clear box_11
  go_wp2
  go_ret
  exact ⟨rfl, hB12⟩

theorem partSets_walk (bo ao : Option Addr) (n bc len cap : Nat) (xs : List Int) (L : List (Nat → Bool)) (S : Nat → Bool) (hn : xs.length = n) (hl : L.length = len) (hlen2 : n ≤ maxLen) (hlen : len ≤ maxLen) (w : World) (hT : Tab w) (hX : IAt w bo xs w.heap.size) (hS : SAt w ao L w.heap.size) :
    Calls Tryd.prog 4 #[.slice bo n bc, .slice ao len cap, sv S] w fun e w' => e = .returned (.bool true) ∧ Below w.heap.size w w' := by
  unfold maxLen at hlen hlen2
  by_cases h1 : 300 < n
  · have g1 : (300 : Int) < (n : Int) := by omega
    clear hS hX hT hl hn
    go_enter Tryd.func4, Tryd.ntmps4
    go_wp2
    go_ret
    exact ⟨rfl, bal (Below.refl _ _) _⟩
  · by_cases h2 : 30 < len
    · have g1 : ¬ (300 : Int) < (n : Int) := by omega
      have g2 : (30 : Int) < (len : Int) := by omega
      clear hS hX hT hl hn
      go_enter Tryd.func4, Tryd.ntmps4
      go_wp2
      go_ret
      exact ⟨rfl, bal (Below.refl _ _) _⟩
    · exact partSets_main bo ao n bc len cap xs L S hn hl (by omega) (by omega) w hT hX hS
end Go.Proofs.YtjfjfbefhdabeaaDoor
