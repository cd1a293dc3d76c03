/-
  The walk of the statement PartDoes: of any row of sets it returns true; nothing that was there before the call has changed. Conditions: the sets lie in memory as a slice; the table of math/bits as it is laid.
-/
import Derived.Test.YtjfjfbefhdabeaaDoorPartAns
import Derived.Test.YtjfjfbefhdabeaaDoorPartAwake
import Derived.Test.YtjfjfbefhdabeaaDoorPartSameR
import Derived.Test.YtjfjfbefhdabeaaDoorPartAppend
namespace Go.Proofs.YtjfjfbefhdabeaaDoor
open Go.RowKit

set_option maxRecDepth 100000 in
set_option maxHeartbeats 2000000 in
theorem partDoes_main (ao : Option Addr) (len cap : Nat) (L : List (Nat → Bool)) (hl : L.length = len) (hlen : len ≤ 40 ∨ (1024 < len ∧ len ≤ 1100)) (w : World) (hT : Tab w) (hS : SAt w ao L w.heap.size) :
    Calls Tryd.prog 3 #[.slice ao len cap] w fun e w' => e = .returned (.bool true) ∧ Below w.heap.size w w' := by
  have HL := Lib.hid hl
  have HS := Lib.hid hS
  have HT := Lib.hid hT
  have hle : len ≤ 1100 := by omega
  clear hl hS hT
  have hown0 : w.ownsRow w.heap.size 35 4 (.slice none 0 0) 0 (setCells []) := World.ownsRow_nil _ _ _ _
  rcases hlen with h40 | ⟨h1024, h1100⟩
  · have g1 : ¬ (40 : Int) < (len : Int) := by omega
    have g3 : ¬ (1100 : Int) < (len : Int) := by omega
    go_enter Tryd.func3, Tryd.ntmps3
    go_wp2_with (first | (at_builtin; refine wpList_append_sets _ rfl _ _ rfl w.heap.size (.slice none 0 0) 0 [] rfl hown0 ao len cap L rfl HL.out HS.out (by omega) (Nat.le_refl _) ?_; intro v1 w1 hown1 hg; rw [Nat.zero_add, List.nil_append] at hown1) | fail)
    have hlow := grown_low0 hown0 (Nat.le_refl _) hg
    rw [← HL.out] at hown1
    obtain ⟨oo, oc, rfl, own1⟩ := SAt.of_owns hown1
    rw [HL.out]
    have hB1 : Below w.heap.size w w1 := hlow
    have arg1 := (HS.out.below hB1 (Nat.le_refl _)).mono hB1.size
    clear hown0 hown1 hg hlow
    refine (parts_ans oo len oc L HL.out w1 own1).mono ?_
    rintro e w2 ⟨p2, c2, rfl, ra2, hb2⟩
    have hB2 := btr hB1 hb2
    have own_2 := (own1.below hb2 (Nat.le_refl _)).mono hb2.size
    have arg_2 := (arg1.below hb2 (Nat.le_refl _)).mono hb2.size
    clear hB1 hb2 own1 arg1
    go_wp2_with fail
    refine (refparts_ans ao len cap L HL.out w2 arg_2).mono ?_
    rintro e w3 ⟨p3, c3, rfl, rb3, hb3⟩
    have hB3 := btr hB2 hb3
    have own_3 := (own_2.below hb3 (Nat.le_refl _)).mono hb3.size
    have arg_3 := (arg_2.below hb3 (Nat.le_refl _)).mono hb3.size
    have ra_3 := (ra2.below hb3 (Nat.le_refl _)).mono hb3.size
    clear hB2 hb3 own_2 arg_2 ra2
    go_wp2_with fail
    have hT4 := HT.out.below' hB3
    refine (class_ans oo len oc L HL.out (by omega) w3 hT4 own_3).mono ?_
    rintro e w4 ⟨p4, c4, rfl, rc4, hb4⟩
    have hB4 := btr hB3 hb4
    have own_4 := (own_3.below hb4 (Nat.le_refl _)).mono hb4.size
    have arg_4 := (arg_3.below hb4 (Nat.le_refl _)).mono hb4.size
    have ra_4 := (ra_3.below hb4 (Nat.le_refl _)).mono hb4.size
    have rb_4 := (rb3.below hb4 (Nat.le_refl _)).mono hb4.size
    clear hB3 hb4 own_3 arg_3 ra_3 rb3
    go_wp2_with fail
    refine (refclass_ans ao len cap L HL.out (by omega) w4 arg_4).mono ?_
    rintro e w5 ⟨p5, c5, rfl, rd5, hb5⟩
    have hB5 := btr hB4 hb5
    have own_5 := (own_4.below hb5 (Nat.le_refl _)).mono hb5.size
    have arg_5 := (arg_4.below hb5 (Nat.le_refl _)).mono hb5.size
    have ra_5 := (ra_4.below hb5 (Nat.le_refl _)).mono hb5.size
    have rb_5 := (rb_4.below hb5 (Nat.le_refl _)).mono hb5.size
    have rc_5 := (rc4.below hb5 (Nat.le_refl _)).mono hb5.size
    clear hB4 hb5 own_4 arg_4 ra_4 rb_4 rc4
    go_wp2_with fail
    have hT6 := HT.out.below' hB5
    refine (awake_part w5 hT6).mono ?_
    rintro e w6 ⟨rfl, hb6⟩
    have hB6 := btr hB5 hb6
    have own_6 := (own_5.below hb6 (Nat.le_refl _)).mono hb6.size
    have arg_6 := (arg_5.below hb6 (Nat.le_refl _)).mono hb6.size
    have ra_6 := (ra_5.below hb6 (Nat.le_refl _)).mono hb6.size
    have rb_6 := (rb_5.below hb6 (Nat.le_refl _)).mono hb6.size
    have rc_6 := (rc_5.below hb6 (Nat.le_refl _)).mono hb6.size
    have rd_6 := (rd5.below hb6 (Nat.le_refl _)).mono hb6.size
    clear hB5 hb6 own_5 arg_5 ra_5 rb_5 rc_5 rd5
    go_wp2_with fail
    refine (same_any p2 p3 _ c2 c3 (ptA L) rfl (by have := ptA_le L; omega) w6 ra_6 rb_6).mono ?_
    rintro e w7 ⟨rfl, hb7⟩
    have hB7 := btr hB6 hb7
    have own_7 := (own_6.below hb7 (Nat.le_refl _)).mono hb7.size
    have arg_7 := (arg_6.below hb7 (Nat.le_refl _)).mono hb7.size
    have ra_7 := (ra_6.below hb7 (Nat.le_refl _)).mono hb7.size
    have rb_7 := (rb_6.below hb7 (Nat.le_refl _)).mono hb7.size
    have rc_7 := (rc_6.below hb7 (Nat.le_refl _)).mono hb7.size
    have rd_7 := (rd_6.below hb7 (Nat.le_refl _)).mono hb7.size
    clear hB6 hb7 own_6 arg_6 ra_6 rb_6 rc_6 rd_6
    go_wp2_with fail
    refine (ints_any p4 p5 _ c4 c5 (cA L) rfl (by have := cA_le L; omega) w7 rc_7 rd_7).mono ?_
    rintro e w8 ⟨rfl, hb8⟩
    have hB8 := btr hB7 hb8
    have own_8 := (own_7.below hb8 (Nat.le_refl _)).mono hb8.size
    have arg_8 := (arg_7.below hb8 (Nat.le_refl _)).mono hb8.size
    have ra_8 := (ra_7.below hb8 (Nat.le_refl _)).mono hb8.size
    have rb_8 := (rb_7.below hb8 (Nat.le_refl _)).mono hb8.size
    have rc_8 := (rc_7.below hb8 (Nat.le_refl _)).mono hb8.size
    have rd_8 := (rd_7.below hb8 (Nat.le_refl _)).mono hb8.size
    clear hB7 hb8 own_7 arg_7 ra_7 rb_7 rc_7 rd_7
    go_wp2_with fail
    refine (same_any oo ao len oc cap L HL.out (by omega) w8 own_8 arg_8).mono ?_
    rintro e w9 ⟨rfl, hb9⟩
    have hB9 := btr hB8 hb9
    have own_9 := (own_8.below hb9 (Nat.le_refl _)).mono hb9.size
    have arg_9 := (arg_8.below hb9 (Nat.le_refl _)).mono hb9.size
    have ra_9 := (ra_8.below hb9 (Nat.le_refl _)).mono hb9.size
    have rb_9 := (rb_8.below hb9 (Nat.le_refl _)).mono hb9.size
    have rc_9 := (rc_8.below hb9 (Nat.le_refl _)).mono hb9.size
    have rd_9 := (rd_8.below hb9 (Nat.le_refl _)).mono hb9.size
    clear hB8 hb9 own_8 arg_8 ra_8 rb_8 rc_8 rd_8
    go_wp2
    go_ret
    exact ⟨rfl, hB9⟩
  · have g1 : (40 : Int) < (len : Int) := by omega
    have g2 : ¬ (len : Int) ≤ 1024 := by omega
    have g3 : ¬ (1100 : Int) < (len : Int) := by omega
    go_enter Tryd.func3, Tryd.ntmps3
    go_wp2_with (first | (at_builtin; refine wpList_append_sets _ rfl _ _ rfl w.heap.size (.slice none 0 0) 0 [] rfl hown0 ao len cap L rfl HL.out HS.out (by omega) (Nat.le_refl _) ?_; intro v1 w1 hown1 hg; rw [Nat.zero_add, List.nil_append] at hown1) | fail)
    have hlow := grown_low0 hown0 (Nat.le_refl _) hg
    rw [← HL.out] at hown1
    obtain ⟨oo, oc, rfl, own1⟩ := SAt.of_owns hown1
    rw [HL.out]
    have hB1 : Below w.heap.size w w1 := hlow
    have arg1 := (HS.out.below hB1 (Nat.le_refl _)).mono hB1.size
    clear hown0 hown1 hg hlow
    refine (parts_ans oo len oc L HL.out w1 own1).mono ?_
    rintro e w2 ⟨p2, c2, rfl, ra2, hb2⟩
    have hB2 := btr hB1 hb2
    have own_2 := (own1.below hb2 (Nat.le_refl _)).mono hb2.size
    have arg_2 := (arg1.below hb2 (Nat.le_refl _)).mono hb2.size
    clear hB1 hb2 own1 arg1
    go_wp2_with fail
    refine (refparts_ans ao len cap L HL.out w2 arg_2).mono ?_
    rintro e w3 ⟨p3, c3, rfl, rb3, hb3⟩
    have hB3 := btr hB2 hb3
    have own_3 := (own_2.below hb3 (Nat.le_refl _)).mono hb3.size
    have arg_3 := (arg_2.below hb3 (Nat.le_refl _)).mono hb3.size
    have ra_3 := (ra2.below hb3 (Nat.le_refl _)).mono hb3.size
    clear hB2 hb3 own_2 arg_2 ra2
    go_wp2_with fail
    have hT4 := HT.out.below' hB3
    refine (class_ans oo len oc L HL.out (by omega) w3 hT4 own_3).mono ?_
    rintro e w4 ⟨p4, c4, rfl, rc4, hb4⟩
    have hB4 := btr hB3 hb4
    have own_4 := (own_3.below hb4 (Nat.le_refl _)).mono hb4.size
    have arg_4 := (arg_3.below hb4 (Nat.le_refl _)).mono hb4.size
    have ra_4 := (ra_3.below hb4 (Nat.le_refl _)).mono hb4.size
    have rb_4 := (rb3.below hb4 (Nat.le_refl _)).mono hb4.size
    clear hB3 hb4 own_3 arg_3 ra_3 rb3
    go_wp2_with fail
    refine (refclass_ans ao len cap L HL.out (by omega) w4 arg_4).mono ?_
    rintro e w5 ⟨p5, c5, rfl, rd5, hb5⟩
    have hB5 := btr hB4 hb5
    have own_5 := (own_4.below hb5 (Nat.le_refl _)).mono hb5.size
    have arg_5 := (arg_4.below hb5 (Nat.le_refl _)).mono hb5.size
    have ra_5 := (ra_4.below hb5 (Nat.le_refl _)).mono hb5.size
    have rb_5 := (rb_4.below hb5 (Nat.le_refl _)).mono hb5.size
    have rc_5 := (rc4.below hb5 (Nat.le_refl _)).mono hb5.size
    clear hB4 hb5 own_4 arg_4 ra_4 rb_4 rc4
    go_wp2_with fail
    have hT6 := HT.out.below' hB5
    refine (awake_part w5 hT6).mono ?_
    rintro e w6 ⟨rfl, hb6⟩
    have hB6 := btr hB5 hb6
    have own_6 := (own_5.below hb6 (Nat.le_refl _)).mono hb6.size
    have arg_6 := (arg_5.below hb6 (Nat.le_refl _)).mono hb6.size
    have ra_6 := (ra_5.below hb6 (Nat.le_refl _)).mono hb6.size
    have rb_6 := (rb_5.below hb6 (Nat.le_refl _)).mono hb6.size
    have rc_6 := (rc_5.below hb6 (Nat.le_refl _)).mono hb6.size
    have rd_6 := (rd5.below hb6 (Nat.le_refl _)).mono hb6.size
    clear hB5 hb6 own_5 arg_5 ra_5 rb_5 rc_5 rd5
    go_wp2_with fail
    refine (same_any p2 p3 _ c2 c3 (ptA L) rfl (by have := ptA_le L; omega) w6 ra_6 rb_6).mono ?_
    rintro e w7 ⟨rfl, hb7⟩
    have hB7 := btr hB6 hb7
    have own_7 := (own_6.below hb7 (Nat.le_refl _)).mono hb7.size
    have arg_7 := (arg_6.below hb7 (Nat.le_refl _)).mono hb7.size
    have ra_7 := (ra_6.below hb7 (Nat.le_refl _)).mono hb7.size
    have rb_7 := (rb_6.below hb7 (Nat.le_refl _)).mono hb7.size
    have rc_7 := (rc_6.below hb7 (Nat.le_refl _)).mono hb7.size
    have rd_7 := (rd_6.below hb7 (Nat.le_refl _)).mono hb7.size
    clear hB6 hb7 own_6 arg_6 ra_6 rb_6 rc_6 rd_6
    go_wp2_with fail
    refine (ints_any p4 p5 _ c4 c5 (cA L) rfl (by have := cA_le L; omega) w7 rc_7 rd_7).mono ?_
    rintro e w8 ⟨rfl, hb8⟩
    have hB8 := btr hB7 hb8
    have own_8 := (own_7.below hb8 (Nat.le_refl _)).mono hb8.size
    have arg_8 := (arg_7.below hb8 (Nat.le_refl _)).mono hb8.size
    have ra_8 := (ra_7.below hb8 (Nat.le_refl _)).mono hb8.size
    have rb_8 := (rb_7.below hb8 (Nat.le_refl _)).mono hb8.size
    have rc_8 := (rc_7.below hb8 (Nat.le_refl _)).mono hb8.size
    have rd_8 := (rd_7.below hb8 (Nat.le_refl _)).mono hb8.size
    clear hB7 hb8 own_7 arg_7 ra_7 rb_7 rc_7 rd_7
    go_wp2_with fail
    refine (same_any oo ao len oc cap L HL.out (by omega) w8 own_8 arg_8).mono ?_
    rintro e w9 ⟨rfl, hb9⟩
    have hB9 := btr hB8 hb9
    have own_9 := (own_8.below hb9 (Nat.le_refl _)).mono hb9.size
    have arg_9 := (arg_8.below hb9 (Nat.le_refl _)).mono hb9.size
    have ra_9 := (ra_8.below hb9 (Nat.le_refl _)).mono hb9.size
    have rb_9 := (rb_8.below hb9 (Nat.le_refl _)).mono hb9.size
    have rc_9 := (rc_8.below hb9 (Nat.le_refl _)).mono hb9.size
    have rd_9 := (rd_8.below hb9 (Nat.le_refl _)).mono hb9.size
    clear hB8 hb9 own_8 arg_8 ra_8 rb_8 rc_8 rd_8
    go_wp2
    go_ret
    exact ⟨rfl, hB9⟩

theorem partDoes_walk (ao : Option Addr) (len cap : Nat) (L : List (Nat → Bool)) (hl : L.length = len) (hlen : len ≤ maxLen) (w : World) (hT : Tab w) (hS : SAt w ao L w.heap.size) :
    Calls Tryd.prog 3 #[.slice ao len cap] w fun e w' => e = .returned (.bool true) ∧ Below w.heap.size w w' := by
  unfold maxLen at hlen
  by_cases h : len ≤ 40 ∨ (1024 < len ∧ len ≤ 1100)
  · exact partDoes_main ao len cap L hl h w hT hS
  · have g1 : (40 : Int) < (len : Int) := by omega
    clear hS hT hl
    by_cases h2 : len ≤ 1024
    · have g2 : (len : Int) ≤ 1024 := by omega
      go_enter Tryd.func3, Tryd.ntmps3
      go_wp2
      go_ret
      exact ⟨rfl, Below.refl _ _⟩
    · have g2 : ¬ (len : Int) ≤ 1024 := by omega
      have g3 : (1100 : Int) < (len : Int) := by omega
      go_enter Tryd.func3, Tryd.ntmps3
      go_wp2
      go_ret
      exact ⟨rfl, Below.refl _ _⟩
end Go.Proofs.YtjfjfbefhdabeaaDoor
