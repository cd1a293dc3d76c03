/-
  The walk of the statement TextDoes: of any row of texts and any two texts it returns true; nothing that was there before the call has changed. Conditions: the texts lie in memory as a slice; sizes up to 2^47.
-/
import Derived.Test.YtpcmmbbdpgfdnaaTextAwake
namespace Go.Proofs.Ytpcmmbbdpgfdnaa
open Go.RowKit

/-- What Strip answers. -/
def stA (f s : List UInt8) : ByteArray := if beg f s then mkS (s.drop f.length) else mkS []
def stE (f s : List UInt8) : Int := if beg f s then 0 else 1
theorem strip_ans (f s : ByteArray) (hf : f.size ≤ 4294967296) (hs : s.size ≤ 4294967296) (w : World) :
    Calls Try.prog 9 #[.string f, .string s] w fun e w' => e = .returned (.tuple #[.string (stA (bl f) (bl s)), .int .i64 (stE (bl f) (bl s))]) ∧ Below w.heap.size w w' := by
  unfold stA stE
  cases h : beg (bl f) (bl s) with
  | true => exact strip_yes f s hf hs h w
  | false => exact strip_no f s hf hs h w
theorem refstrip_ans (f s : ByteArray) (w : World) :
    Calls Try.prog 10 #[.string f, .string s] w fun e w' => e = .returned (.tuple #[.string (stA (bl f) (bl s)), .int .i64 (stE (bl f) (bl s))]) ∧ Below w.heap.size w w' := by
  unfold stA stE
  cases h : beg (bl f) (bl s) with
  | true =>
    refine (refstrip_yes f s h w).mono ?_
    rintro e w' ⟨rfl, rfl⟩
    exact ⟨rfl, Below.refl _ _⟩
  | false =>
    refine (refstrip_no f s h w).mono ?_
    rintro e w' ⟨rfl, rfl⟩
    exact ⟨rfl, Below.refl _ _⟩

set_option maxRecDepth 100000 in
set_option maxHeartbeats 1000000 in
theorem textDoes_main (ao : Option Addr) (len cap : Nat) (L : List (List UInt8)) (a b : ByteArray) (hl : L.length = len) (hsh : ShortL L) (ha : a.size ≤ 300) (hb : b.size ≤ 300) (hm : len ≤ maxLen) (w : World) (hS : TAt w ao L w.heap.size) :
    Calls Try.prog 3 #[.slice ao len cap, .string a, .string b] w fun e w' => e = .returned (.bool true) ∧ Below w.heap.size w w' := by
  have HL := Lib.hid hl
  have HS := Lib.hid hS
  have h60 := hsh.1
  rw [hl] at h60
  have hmem := Lib.hid hsh.2
  have hx0 := Lib.hid (show (L.getD 0 []).length ≤ 300 from by
    by_cases h : 0 < L.length
    · exact hsh.2 _ (by rw [List.getD, List.getElem?_eq_getElem h]; exact List.getElem_mem h)
    · rw [List.getD, List.getElem?_eq_none (by omega)]; simp)
  have SH := Lib.hid (short_any ao len cap L hl hm w hS)
  rw [(shortB_iff L).2 hsh] at SH
  clear hl hS hsh
  have ga : ¬ (300 : Int) < (a.size : Int) := by omega
  have gb : ¬ (300 : Int) < (b.size : Int) := by omega
  go_enter Try.func3, Try.ntmps3
  go_wp2_with fail
  refine SH.out.mono ?_
  rintro e w1 ⟨rfl, hb1⟩
  have arg1 := (HS.out.below hb1 (Nat.le_refl _)).mono hb1.size
  go_wp2_with fail
  refine (own_any ao len cap L HL.out (by omega) w1 arg1).mono ?_
  rintro e w2 ⟨oo, oc, rfl, hoc, own2, hb2⟩
  have hB2 := btr hb1 hb2
  have arg2 := (arg1.below hb2 (Nat.le_refl _)).mono hb2.size
  clear hb1 hb2 arg1
  go_wp2_with fail
  refine (strip_ans a b (by omega) (by omega) w2).mono ?_
  rintro e w3 ⟨rfl, hb3⟩
  have hB3 := btr hB2 hb3
  have arg3 := (arg2.below hb3 (Nat.le_refl _)).mono hb3.size
  have own3 := (own2.below hb3 (Nat.le_refl _)).mono hb3.size
  clear hB2 hb3 arg2 own2
  go_wp2_with fail
  refine (refstrip_ans a b w3).mono ?_
  rintro e w4 ⟨rfl, hb4⟩
  have hB4 := btr hB3 hb4
  have arg4 := (arg3.below hb4 (Nat.le_refl _)).mono hb4.size
  have own4 := (own3.below hb4 (Nat.le_refl _)).mono hb4.size
  clear hB3 hb4 arg3 own3
  go_wp2_with fail
  refine (lag_any a b (by omega) (by omega) w4).mono ?_
  rintro e w5 ⟨rfl, hb5⟩
  have hB5 := btr hB4 hb5
  have arg5 := (arg4.below hb5 (Nat.le_refl _)).mono hb5.size
  have own5 := (own4.below hb5 (Nat.le_refl _)).mono hb5.size
  clear hB4 hb5 arg4 own4
  go_wp2_with fail
  refine (reflag_any a b (by omega) w5).mono ?_
  rintro e w6 ⟨rfl, hb6⟩
  have hB6 := btr hB5 hb6
  have arg6 := (arg5.below hb6 (Nat.le_refl _)).mono hb6.size
  have own6 := (own5.below hb6 (Nat.le_refl _)).mono hb6.size
  clear hB5 hb6 arg5 own5
  go_wp2_with fail
  refine (lcp_any oo len oc L HL.out hoc (by omega) (fun l h => by have := hmem.out l h; omega) w6 own6).mono ?_
  rintro e w7 ⟨rfl, hb7⟩
  have hB7 := btr hB6 hb7
  have arg7 := (arg6.below hb7 (Nat.le_refl _)).mono hb7.size
  have own7 := (own6.below hb7 (Nat.le_refl _)).mono hb7.size
  clear hB6 hb7 arg6 own6
  go_wp2_with fail
  refine (reflcp_any ao len cap L HL.out (by omega) (by have := hx0.out; omega) w7 arg7).mono ?_
  rintro e w8 ⟨rfl, hb8⟩
  have hB8 := btr hB7 hb8
  have arg8 := (arg7.below hb8 (Nat.le_refl _)).mono hb8.size
  have own8 := (own7.below hb8 (Nat.le_refl _)).mono hb8.size
  clear hB7 hb8 arg7 own7
  go_wp2_with fail
  refine (awake_text w8).mono ?_
  rintro e w9 ⟨rfl, hb9⟩
  have hB9 := btr hB8 hb9
  have arg9 := (arg8.below hb9 (Nat.le_refl _)).mono hb9.size
  have own9 := (own8.below hb9 (Nat.le_refl _)).mono hb9.size
  clear hB8 hb9 arg8 own8
  go_wp2_with fail
  refine (far_any a b (by omega) (by omega) w9).mono ?_
  rintro e w10 ⟨rfl, hb10⟩
  have hB10 := btr hB9 hb10
  have arg10 := (arg9.below hb10 (Nat.le_refl _)).mono hb10.size
  have own10 := (own9.below hb10 (Nat.le_refl _)).mono hb10.size
  clear hB9 hb10 arg9 own9
  go_wp2_with fail
  refine (reffar_any a b (by omega) (by omega) w10).mono ?_
  rintro e w11 ⟨rfl, hb11⟩
  have hB11 := btr hB10 hb11
  have arg11 := (arg10.below hb11 (Nat.le_refl _)).mono hb11.size
  have own11 := (own10.below hb11 (Nat.le_refl _)).mono hb11.size
  clear hB10 hb11 arg10 own10
  go_wp2_with fail
  refine (count_any a b (by omega) (by omega) w11).mono ?_
  rintro e w12 ⟨rfl, hb12⟩
  have hB12 := btr hB11 hb12
  have arg12 := (arg11.below hb12 (Nat.le_refl _)).mono hb12.size
  have own12 := (own11.below hb12 (Nat.le_refl _)).mono hb12.size
  clear hB11 hb12 arg11 own11
  go_wp2_with fail
  refine (refcount_any a b (by omega) w12).mono ?_
  rintro e w13 ⟨rfl, hb13⟩
  have hB13 := btr hB12 hb13
  have arg13 := (arg12.below hb13 (Nat.le_refl _)).mono hb13.size
  have own13 := (own12.below hb13 (Nat.le_refl _)).mono hb13.size
  clear hB12 hb13 arg12 own12
  go_wp2_with fail
  refine (texts_any oo ao len oc cap L HL.out (by omega) w13 own13 arg13).mono ?_
  rintro e w14 ⟨rfl, hb14⟩
  have hB14 := btr hB13 hb14
  go_wp2
  go_ret
  exact ⟨rfl, hB14⟩
end Go.Proofs.Ytpcmmbbdpgfdnaa
