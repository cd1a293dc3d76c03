/-
  Layer 6's reference: is a byte one of some, does it stand for itself, a byte written. Conditions: none but those that each names.
-/
import Derived.Test.YtgckhkdjjmeboaaDoorLexBackM
import Derived.Test.YtgckhkdjjmeboaaDoorTextPlain
import Derived.Laws.BytesArg
import Derived.Laws.Concat
import Derived.Laws.Strings3
import Derived.Deep.QuietTactic
import Derived.BigQuiet
namespace Go.Proofs.YtgckhkdjjmeboaaDoor
open Go.RowKit

theorem byte_get' (a : ByteArray) (k : Nat) (h : k < a.size) : (bl a)[k]'(by rw [bl_length]; exact h) = a[k] := rfl

theorem refin_any (c : UInt8) (l : ByteArray) (hl : l.size ≤ 4294967296) (w : World) :
    Calls Tryd.prog 28 #[.int .u8 ((c.toNat : Nat) : Int), .string l] w fun e w' => e = .returned (.bool ((bl l).contains c)) ∧ Below w.heap.size w w' := by
  have hbl := bl_length l
  have HT := Lib.hid (fun k (h : k < l.size) (e : l[k] = c) => show (bl l).contains c = true from List.contains_iff_mem.2 (by rw [← e, ← byte_get' l k h]; exact List.getElem_mem _))
  have HF := Lib.hid (fun (h : ∀ k (hk : k < l.size), l[k] ≠ c) => show (bl l).contains c = false by
    rw [Bool.eq_false_iff]
    intro e
    obtain ⟨i, hi, he⟩ := List.mem_iff_getElem.1 (List.contains_iff_mem.1 e)
    rw [hbl] at hi
    exact h i hi (by rw [← byte_get' l i hi]; exact he))
  clear hbl
  have nc := UInt8.toNat_lt c
  generalize (bl l).contains c = r at *
  go_enter Tryd.func28, Tryd.ntmps28
  go_wp2
  go_loopw [5] (fun i wr => ∃ k : Nat, k ≤ l.size ∧ i = .int .i64 k ∧ Hid (∀ j (hj : j < l.size), j < k → l[j] ≠ c) ∧ Below w.heap.size w wr)
    (fun i _ => l.size - (intOf i).toNat)
  case atStart => exact ⟨0, Nat.zero_le _, rfl, Lib.hid fun j _ h => absurd h (Nat.not_lt_zero _), Below.refl _ _⟩
  case round =>
    obtain ⟨k, hk, rfl, hall, hB⟩ := hrel
    by_cases hlt : k < l.size
    · have hlti : (k : Int) < (l.size : Int) := by omega
      have hk0 : (0 : Int) ≤ (k : Int) := by omega
      have np := UInt8.toNat_lt (l[k]'hlt)
      by_cases hb : l[k]'hlt = c
      · have hd : ((((l[k]'hlt).toNat : Nat) : Int) == ((c.toNat : Nat) : Int)) = true := by rw [hb]; simp
        have HR := Lib.hid (HT.out k hlt hb)
        clear hb
        go_wp2
        go_ret
        exact ⟨by rw [HR.out]; rfl, hB⟩
      · have hne : ¬ (((l[k]'hlt).toNat : Nat) : Int) = ((c.toNat : Nat) : Int) := fun e => hb (UInt8.toNat_inj.1 (by omega))
        have hd : ((((l[k]'hlt).toNat : Nat) : Int) == ((c.toNat : Nat) : Int)) = false := by simpa using hne
        have HN := Lib.hid (fun j (hj : j < l.size) (h : j < k + 1) => show l[j] ≠ c by
          rcases Nat.lt_or_ge j k with h1 | h1
          · exact hall.out j hj h1
          · obtain rfl : j = k := by omega
            exact hb)
        clear hb hne
        go_wp2
        go_roundw
        case rel => exact ⟨k + 1, by omega, by go_num, HN, hB⟩
        case measure => simp [intOf]; omega
    · obtain rfl : k = l.size := by omega
      have HR := Lib.hid (HF.out fun j hj => hall.out j hj hj)
      clear hall
      go_wp2
      go_ret
      exact ⟨by rw [HR.out]; rfl, hB⟩
theorem in_six (c : UInt8) : (bl { data := #[92, 34, 91, 93, 94, 45] }).contains c = sixB c := by
  have h : ∀ n : Fin 256, (bl { data := #[92, 34, 91, 93, 94, 45] }).contains (UInt8.ofNat n.val) = sixB (UInt8.ofNat n.val) := by decide +kernel
  have := h ⟨c.toNat, UInt8.toNat_lt c⟩
  simpa using this
theorem refplain_any (c : UInt8) (w : World) :
    Calls Tryd.prog 27 #[.int .u8 ((c.toNat : Nat) : Int)] w fun e w' => e = .returned (.bool (plainB c)) ∧ Below w.heap.size w w' := by
  have HI := Lib.hid (refin_any c { data := #[92, 34, 91, 93, 94, 45] } (by decide))
  rw [in_six] at HI
  have e : plainB c = (decide (32 ≤ c.toNat) && decide (c.toNat ≤ 126) && !sixB c) := by
    unfold plainB
    simp only [UInt8.le_iff_toNat_le]
    rfl
  rw [e]
  generalize sixB c = b at *
  generalize c.toNat = n at *
  by_cases h1 : 32 ≤ n
  · have i1 : (32 : Int) ≤ (n : Int) := by omega
    by_cases h2 : n ≤ 126
    · have i2 : (n : Int) ≤ 126 := by omega
      go_enter Tryd.func27, Tryd.ntmps27
      go_wp2_with fail
      refine (HI.out w).mono ?_
      rintro e w1 ⟨rfl, hb1⟩
      go_wp2
      go_ret
      exact ⟨by rw [decide_eq_true h1, decide_eq_true h2]; rfl, hb1⟩
    · have i2 : ¬ (n : Int) ≤ 126 := by omega
      go_enter Tryd.func27, Tryd.ntmps27
      go_wp2
      go_ret
      exact ⟨rfl, Below.refl _ _⟩
  · have i1 : ¬ (32 : Int) ≤ (n : Int) := by omega
    go_enter Tryd.func27, Tryd.ntmps27
    go_wp2
    go_ret
    exact ⟨rfl, Below.refl _ _⟩
theorem digits_at : ∀ n : Fin 16, (ByteArray.mk #[48, 49, 50, 51, 52, 53, 54, 55, 56, 57, 97, 98, 99, 100, 101, 102]).extract n.val (n.val + 1) = mkS [hexD n.val] := by decide +kernel
theorem digit_at {n : Nat} (h : n < 16) : (ByteArray.mk #[48, 49, 50, 51, 52, 53, 54, 55, 56, 57, 97, 98, 99, 100, 101, 102]).extract n (n + 1) = mkS [hexD n] := digits_at ⟨n, h⟩

set_option maxRecDepth 100000 in
theorem refbyte_any (c : UInt8) (w : World) :
    Calls Tryd.prog 15 #[.int .u8 ((c.toNat : Nat) : Int)] w fun e w' => e = .returned (.string (mkS (byteL c))) ∧ Below w.heap.size w w' := by
  have HP := Lib.hid (refplain_any c)
  have HI := Lib.hid (refin_any c { data := #[92, 34, 91, 93, 94, 45] } (by decide))
  rw [in_six] at HI
  have nc := UInt8.toNat_lt c
  have hc1 : UInt8.ofNat c.toNat = c := by simp
  by_cases h1 : plainB c = true
  · have HB := Lib.hid (show byteL c = [c] from if_pos h1)
    rw [h1] at HP
    have hcv := fun W : World => run_convert_bytes_arg (P := Tryd.prog) (W.alloc (.cells #[.int .u8 ((c.toNat : Nat) : Int)] 5)) 40 5 Tryd.underlying40 Tryd.underlying5 W.heap.size 0 1 1 [((c.toNat : Nat) : Int)] rfl (fun i hi => by
      obtain rfl : i = 0 := by omega
      exact (Blk.new W 5 #[.int .u8 ((c.toNat : Nat) : Int)]).cell 0) 9 Tryd.underlying9
    have HS := Lib.hid (show strOfNums [((c.toNat : Nat) : Int)] = mkS [c] by simp [strOfNums, mkS])
    clear h1
    go_enter Tryd.func15, Tryd.ntmps15
    go_wp2_with fail
    refine (HP.out w).mono ?_
    rintro e w1 ⟨rfl, hb1⟩
    go_wp2
    go_ret
    exact ⟨by rw [HB.out, ← HS.out]; rfl, bal hb1 _⟩
  · have h1' : plainB c = false := by simpa using h1
    rw [h1'] at HP
    by_cases h2 : sixB c = true
    · have HB := Lib.hid (show byteL c = [92, c] by unfold byteL; rw [if_neg h1, if_pos h2])
      rw [h2] at HI
      have hcv := fun W : World => run_convert_bytes_arg (P := Tryd.prog) (W.alloc (.cells #[.int .u8 92, .int .u8 ((c.toNat : Nat) : Int)] 5)) 40 5 Tryd.underlying40 Tryd.underlying5 W.heap.size 0 2 2 [92, ((c.toNat : Nat) : Int)] rfl (fun i hi => by
        match i, hi with
        | 0, _ => exact (Blk.new W 5 #[.int .u8 92, .int .u8 ((c.toNat : Nat) : Int)]).cell 0
        | 1, _ => exact (Blk.new W 5 #[.int .u8 92, .int .u8 ((c.toNat : Nat) : Int)]).cell 1) 9 Tryd.underlying9
      have HS := Lib.hid (show strOfNums [92, ((c.toNat : Nat) : Int)] = mkS [92, c] by simp [strOfNums, mkS])
      clear h1 h1' h2
      go_enter Tryd.func15, Tryd.ntmps15
      go_wp2_with fail
      refine (HP.out w).mono ?_
      rintro e w1 ⟨rfl, hb1⟩
      go_wp2_with fail
      refine (HI.out w1).mono ?_
      rintro e w2 ⟨rfl, hb2⟩
      have hB2 := btr hb1 hb2
      go_wp2
      go_ret
      exact ⟨by rw [HB.out, ← HS.out]; rfl, bal hB2 _⟩
    · have h2' : sixB c = false := by simpa using h2
      rw [h2'] at HI
      obtain ⟨n, hn⟩ : ∃ n, c.toNat = n := ⟨_, rfl⟩
      have HB := Lib.hid (show byteL c = if n = 10 then [92, 110] else if n = 9 then [92, 116] else if n = 13 then [92, 114] else [92, 120, hexD (n / 16), hexD (n % 16)] by
        have k1 : c = 10 ↔ n = 10 := by rw [← hn, ← UInt8.toNat_inj]; rfl
        have k2 : c = 9 ↔ n = 9 := by rw [← hn, ← UInt8.toNat_inj]; rfl
        have k3 : c = 13 ↔ n = 13 := by rw [← hn, ← UInt8.toNat_inj]; rfl
        unfold byteL
        rw [if_neg h1, if_neg h2, hn]
        by_cases e1 : n = 10
        · rw [if_pos e1, if_pos (k1.2 e1)]
        · rw [if_neg e1, if_neg fun e => e1 (k1.1 e)]
          by_cases e2 : n = 9
          · rw [if_pos e2, if_pos (k2.2 e2)]
          · rw [if_neg e2, if_neg fun e => e2 (k2.1 e)]
            by_cases e3 : n = 13
            · rw [if_pos e3, if_pos (k3.2 e3)]
            · rw [if_neg e3, if_neg fun e => e3 (k3.1 e)])
      rw [hn] at HP HI nc ⊢
      clear hc1 h1 h1' h2 h2' hn
      by_cases e1 : n = 10
      · subst e1
        go_enter Tryd.func15, Tryd.ntmps15
        go_wp2_with fail
        refine (HP.out w).mono ?_
        rintro e w1 ⟨rfl, hb1⟩
        go_wp2_with fail
        refine (HI.out w1).mono ?_
        rintro e w2 ⟨rfl, hb2⟩
        have hB2 := btr hb1 hb2
        go_wp2
        go_ret
        exact ⟨by rw [HB.out]; rfl, hB2⟩
      · by_cases e2 : n = 9
        · subst e2
          go_enter Tryd.func15, Tryd.ntmps15
          go_wp2_with fail
          refine (HP.out w).mono ?_
          rintro e w1 ⟨rfl, hb1⟩
          go_wp2_with fail
          refine (HI.out w1).mono ?_
          rintro e w2 ⟨rfl, hb2⟩
          have hB2 := btr hb1 hb2
          go_wp2
          go_ret
          exact ⟨by rw [HB.out]; rfl, hB2⟩
        · by_cases e3 : n = 13
          · subst e3
            go_enter Tryd.func15, Tryd.ntmps15
            go_wp2_with fail
            refine (HP.out w).mono ?_
            rintro e w1 ⟨rfl, hb1⟩
            go_wp2_with fail
            refine (HI.out w1).mono ?_
            rintro e w2 ⟨rfl, hb2⟩
            have hB2 := btr hb1 hb2
            go_wp2
            go_ret
            exact ⟨by rw [HB.out]; rfl, hB2⟩
          · have HB2 := Lib.hid (show byteL c = [92, 120, hexD (n / 16), hexD (n % 16)] by rw [HB.out, if_neg e1, if_neg e2, if_neg e3])
            have i1 : ((n : Int) == 10) = false := by simpa using fun e : (n : Int) = 10 => e1 (by omega)
            have i2 : ((n : Int) == 9) = false := by simpa using fun e : (n : Int) = 9 => e2 (by omega)
            have i3 : ((n : Int) == 13) = false := by simpa using fun e : (n : Int) = 13 => e3 (by omega)
            have hq : n / 16 < 16 := by omega
            have hr : n % 16 < 16 := by omega
            clear HB e1 e2 e3
            go_enter Tryd.func15, Tryd.ntmps15
            go_wp2_with fail
            refine (HP.out w).mono ?_
            rintro e w1 ⟨rfl, hb1⟩
            go_wp2_with fail
            refine (HI.out w1).mono ?_
            rintro e w2 ⟨rfl, hb2⟩
            have hB2 := btr hb1 hb2
            go_wp2_with fail
            go_quiet (fail)
            have HS := Lib.hid (show (ByteArray.mk #[92, 120] ++ (ByteArray.mk #[48, 49, 50, 51, 52, 53, 54, 55, 56, 57, 97, 98, 99, 100, 101, 102]).extract (n / 16) (n / 16 + 1) ++ (ByteArray.mk #[48, 49, 50, 51, 52, 53, 54, 55, 56, 57, 97, 98, 99, 100, 101, 102]).extract (n % 16) (n % 16 + 1)) = mkS (byteL c) from bl_inj (by
              rw [HB2.out, bl_append, bl_append, digit_at hq, digit_at hr, bl_mkS, bl_mkS, bl_mkS]; rfl))
            go_wp2
            go_ret
            exact ⟨by rw [← HS.out]; rfl, below_drewN hB2 _⟩
end Go.Proofs.YtgckhkdjjmeboaaDoor
