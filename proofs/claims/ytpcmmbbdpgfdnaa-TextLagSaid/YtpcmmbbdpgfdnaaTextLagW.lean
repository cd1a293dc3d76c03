/-
  The walk of the statement TextLag: of any three texts it returns true; nothing that was there before the call has changed. Conditions: sizes up to 2^47.
-/
import Derived.Test.YtpcmmbbdpgfdnaaTextAwake
import Derived.Test.YtpcmmbbdpgfdnaaPast
import Derived.Laws.Concat
import Derived.BigQuiet
namespace Go.Proofs.Ytpcmmbbdpgfdnaa
open Go.RowKit

theorem nil_t {x : ByteArray} (h : x.size = 0) : (x.toList == ([] : List UInt8)) = true := by
  rw [toList_bl, List.eq_nil_of_length_eq_zero ((bl_length x).trans h)]; rfl
theorem nil_e {x : ByteArray} (h : x.size = 0) : x.toList.isEmpty = true := by
  rw [toList_bl, List.eq_nil_of_length_eq_zero ((bl_length x).trans h)]; rfl
theorem nil_n {x : ByteArray} (h : ¬ x.size = 0) : x.toList.isEmpty = false := by
  rw [toList_bl]
  cases e : bl x with
  | nil => exact absurd (by rw [← bl_length, e]; rfl) h
  | cons a l => rfl
theorem nil_f {x : ByteArray} (h : ¬ x.size = 0) : (x.toList == ([] : List UInt8)) = false := by
  rw [toList_bl]
  cases e : bl x with
  | nil => exact absurd (by rw [← bl_length, e]; rfl) h
  | cons a l => rfl

set_option maxRecDepth 100000 in
set_option maxHeartbeats 300000 in
theorem textLag_walk (a b f : ByteArray) (ha : a.size ≤ 140737488355328) (hb : b.size ≤ 140737488355328) (hf : f.size ≤ 140737488355328) (w : World) :
    Calls Try.prog 4 #[.string a, .string b, .string f] w fun e w' => e = .returned (.bool true) ∧ Below w.heap.size w w' := by
  have w1 : IntKind.i64.wrap ((a.size : Int) + (b.size : Int)) = (a.size : Int) + (b.size : Int) := IntWalk.i64_in _ (by omega)
  have w2 : IntKind.i64.wrap ((a.size : Int) + (b.size : Int) + (f.size : Int)) = (a.size : Int) + (b.size : Int) + (f.size : Int) := IntWalk.i64_in _ (by omega)
  by_cases hs : a.size + b.size + f.size ≤ 900
  · have hsi : ¬ (900 : Int) < (a.size : Int) + (b.size : Int) + (f.size : Int) := by omega
    have la := lcpN_le_left (bl a) (bl b)
    have lb := lcpN_le_right (bl a) (bl b)
    have L1 := Lib.hid (lag_any a b (by omega) (by omega))
    obtain ⟨x, hx⟩ : ∃ x, mkS ((bl a).drop (lcpN (bl a) (bl b))) = x := ⟨_, rfl⟩
    obtain ⟨y, hy⟩ : ∃ y, mkS ((bl b).drop (lcpN (bl a) (bl b))) = y := ⟨_, rfl⟩
    have bx : bl x = (bl a).drop (lcpN (bl a) (bl b)) := by rw [← hx, bl_mkS]
    have bY : bl y = (bl b).drop (lcpN (bl a) (bl b)) := by rw [← hy, bl_mkS]
    have sx : x.size ≤ 900 := by rw [← bl_length, bx, List.length_drop, bl_length]; omega
    have sy : y.size ≤ 900 := by rw [← bl_length, bY, List.length_drop, bl_length]; omega
    have hxy : lcpN (bl x) (bl y) = 0 := by rw [bx, bY]; exact lcpN_drop _ _
    have L2 := Lib.hid (lag_any x y (by omega) (by omega))
    rw [hxy, List.drop_zero, List.drop_zero, mkS_bl, mkS_bl] at L2
    have L3 := Lib.hid (lag_any (f ++ a) (f ++ b) (by rw [ByteArray.size_append]; omega) (by rw [ByteArray.size_append]; omega))
    have d1 : mkS ((bl (f ++ a)).drop (lcpN (bl (f ++ a)) (bl (f ++ b)))) = x := by
      rw [bl_append, bl_append, lcpN_append, ← hx, ← List.drop_drop, List.drop_left]
    have d2 : mkS ((bl (f ++ b)).drop (lcpN (bl (f ++ a)) (bl (f ++ b)))) = y := by
      rw [bl_append, bl_append, lcpN_append, ← hy, ← List.drop_drop, List.drop_left]
    rw [d1, d2] at L3
    rw [hx, hy] at L1
    have L4 := Lib.hid (fun W => lcp_any (some ⟨W, 0, none⟩) 2 2 [bl a, bl b] rfl (by decide) (by decide) (fun l hl => by
      rw [List.mem_cons, List.mem_singleton] at hl
      rcases hl with rfl | rfl <;> rw [bl_length] <;> omega))
    obtain ⟨c, hc⟩ : ∃ c, mkS (lcpL [bl a, bl b]) = c := ⟨_, rfl⟩
    rw [hc] at L4
    have bc : bl c = (bl a).take (lcpN (bl a) (bl b)) := by rw [← hc, bl_mkS, lcpL_two]
    have e1 : c ++ x = a := bl_inj (by rw [bl_append, bc, bx, List.take_append_drop])
    have e2 : c ++ y = b := bl_inj (by rw [bl_append, bc, bY, lcpN_take, List.take_append_drop])
    have E1 := Lib.hid e1
    have E2 := Lib.hid e2
    have sc : c.size ≤ 900 := by rw [← bl_length, bc, List.length_take, bl_length]; omega
    have HXY := Lib.hid hxy
    clear d1 d2 hx hy bx bY hxy hc bc la lb e1 e2
    go_enter Try.func4, Try.ntmps4
    go_wp2_with fail
    refine (L1.out w).mono ?_
    rintro e x1 ⟨rfl, hb1⟩
    go_wp2_with fail
    refine (L2.out x1).mono ?_
    rintro e x2 ⟨rfl, hb2⟩
    have hB2 := btr hb1 hb2
    clear hb1 hb2
    go_wp2_with fail
    refine (L3.out x2).mono ?_
    rintro e x3 ⟨rfl, hb3⟩
    have hB3 := btr hB2 hb3
    clear hB2 hb3
    go_wp2_with fail
    have hat := two_at x3 a b
    refine (L4.out x3.heap.size _ hat).mono ?_
    rintro e x4 ⟨rfl, hb4⟩
    have hB4 := btr (bal hB3 _) hb4
    clear hB3 hb4 hat
    have q1 : (x.toList == x.toList) = true := beq_self_eq_true _
    have q2 : (y.toList == y.toList) = true := beq_self_eq_true _
    have q3 : ((c ++ x).toList == a.toList) = true := by rw [E1.out]; exact beq_self_eq_true _
    have q4 : ((c ++ y).toList == b.toList) = true := by rw [E2.out]; exact beq_self_eq_true _
    have HI : Below w.heap.size w x4 := hB4
    have z1 : ¬ (c.size + x.size > 9223372036854775807) := by omega
    have z2 : ¬ (c.size + y.size > 9223372036854775807) := by omega
    clear hB4
    by_cases hx0 : x.size = 0
    · have q5 : (x.toList == (ByteArray.mk #[]).toList) = true := by
        rw [eq_bl, decide_eq_true_iff]
        exact List.eq_nil_of_length_eq_zero (by rw [bl_length]; exact hx0)
      have q5' := nil_t (x := x) hx0
      have q5'' := nil_e (x := x) hx0
      clear hx0
      go_wp2_with fail
      refine wp_region_past (by kernel_rfl) (by kernel_rfl) HI ?_
      repeat (go_big_quiet_step ((exact Calls.past (awake_text _))))
      refine wpQuiet_nil ?_
      intro p
      have HB := Lib.hid p.h
      go_wp2
      go_ret
      exact ⟨rfl, HB.out⟩
    · have q5 : (x.toList == (ByteArray.mk #[]).toList) = false := by
        rw [eq_bl, decide_eq_false_iff_not]
        intro e
        have := congrArg List.length e
        rw [bl_length] at this
        exact hx0 this
      have q5' := nil_f (x := x) hx0
      have q5'' := nil_n (x := x) hx0
      by_cases hy0 : y.size = 0
      · have q6 : (y.toList == (ByteArray.mk #[]).toList) = true := by
          rw [eq_bl, decide_eq_true_iff]
          exact List.eq_nil_of_length_eq_zero (by rw [bl_length]; exact hy0)
        have q6' := nil_t (x := y) hy0
        have q6'' := nil_e (x := y) hy0
        clear hx0 hy0
        go_wp2_with fail
        refine wp_region_past (by kernel_rfl) (by kernel_rfl) HI ?_
        repeat (go_big_quiet_step ((exact Calls.past (awake_text _))))
        refine wpQuiet_nil ?_
        intro p
        have HB := Lib.hid p.h
        go_wp2
        go_ret
        exact ⟨rfl, HB.out⟩
      · have q6 : (y.toList == (ByteArray.mk #[]).toList) = false := by
          rw [eq_bl, decide_eq_false_iff_not]
          intro e
          have := congrArg List.length e
          rw [bl_length] at this
          exact hy0 this
        have q6' := nil_f (x := y) hy0
        have q6'' := nil_n (x := y) hy0
        have hxp : 0 < x.size := by omega
        have hyp : 0 < y.size := by omega
        have i1 : (0 : Int) < (x.size : Int) := by omega
        have i2 : (0 : Int) < (y.size : Int) := by omega
        have hne : ¬ x[0]'hxp = y[0]'hyp := fun e => by
          refine lcpN_apart (bl x) (bl y) HXY.out (fun h => by have := congrArg List.length h; rw [bl_length] at this; exact hx0 this) (fun h => by have := congrArg List.length h; rw [bl_length] at this; exact hy0 this) ?_
          rw [List.getElem?_eq_getElem (by rw [bl_length]; exact hxp), List.getElem?_eq_getElem (by rw [bl_length]; exact hyp), byte_get x 0 hxp, byte_get y 0 hyp, e]
        have hni : ¬ (((x[0]'hxp).toNat : Nat) : Int) = (((y[0]'hyp).toNat : Nat) : Int) := fun e => hne (UInt8.toNat_inj.1 (by omega))
        have q7 : ((((x[0]'hxp).toNat : Nat) : Int) == (((y[0]'hyp).toNat : Nat) : Int)) = false := by simpa using hni
        have q8 : ((((x[0]'hxp).toNat : Nat) : Int) != (((y[0]'hyp).toNat : Nat) : Int)) = true := by simpa using hni
        clear hx0 hy0 hne hni
        go_wp2_with fail
        refine wp_region_past (by kernel_rfl) (by kernel_rfl) HI ?_
        repeat (go_big_quiet_step ((exact Calls.past (awake_text _))))
        refine wpQuiet_nil ?_
        intro p
        have HB := Lib.hid p.h
        go_wp2
        go_ret
        exact ⟨rfl, HB.out⟩
  · have hsi : (900 : Int) < (a.size : Int) + (b.size : Int) + (f.size : Int) := by omega
    go_enter Try.func4, Try.ntmps4
    go_wp2
    go_ret
    exact ⟨rfl, Below.refl _ _⟩
end Go.Proofs.Ytpcmmbbdpgfdnaa
