/-
  The walks of package text, third half: borders, Count. Conditions: sizes that each names.
-/
import Derived.Test.YtpcmmbbdpgfdnaaTextPkg2
namespace Go.Proofs.Ytpcmmbbdpgfdnaa
open Go.RowKit Go.Shelf

theorem info_i32 : (Try.prog.info? 21).map (fun i => (i.zero, i.size, i.bytes)) = some (some (.int .i32 0), 1, 4) := by kernel_rfl
theorem make_i32 (n : Nat) (hn : n ≤ 1099511627776) (w : World) : (Instr.makeSlice 39 (.int .i64 (n : Int)) (.int .i64 (n : Int))).run Try.prog w = .ok (.slice (some ⟨w.heap.size, 0, none⟩) n n) (w.alloc (.cells (nums .i32 n fun _ => 0) 21)) := by
  obtain ⟨i0, hi, hz0, hz1, hz2⟩ := info_parts info_i32
  have := run_make (P := Try.prog) w 39 21 i0 (.int .i32 0) Try.underlying39 hi hz0 .i64 .i64 (n : Int) (n : Int) (by omega) (by omega) (by rw [hz2]; omega) (by omega)
  rw [this]
  have e : madeCells (Value.int .i32 0).cells ((n : Int).toNat * i0.size) = nums .i32 n fun _ => 0 := by
    rw [hz1, Int.toNat_natCast, Nat.mul_one]; exact nums_made _ _
  rw [e]
  rfl

/-- The first K of the numbers, the others zero. -/
def bdTo (p : List UInt8) (K : Nat) : Nat → Int := fun i => if i < K then ((bd p (i + 1) : Nat) : Int) else 0
theorem bdTo_next (p : List UInt8) (K : Nat) : (fun i => if i = K then ((bd p (K + 1) : Nat) : Int) else bdTo p K i) = bdTo p (K + 1) := by
  funext i
  unfold bdTo
  by_cases e : i = K
  · subst e; simp
  · have : (i < K + 1) = (i < K) := by apply propext; omega
    simp only [this, if_neg e]
theorem bdAt_of {W : World} {g n K : Nat} {p : List UInt8} {t : TypeId} (h : Blk W g t (nums .i32 n (bdTo p K))) (hn : K ≤ n) : BdAt W g p K :=
  ⟨h.lt, fun i hi => by rw [h.cell, nums_get _ _ _ _ (by omega)]; simp [bdTo, hi]⟩

set_option maxRecDepth 100000 in
set_option maxHeartbeats 1000000 in
theorem borders_any (p : ByteArray) (hp : p.size ≤ 2147483647) (h0 : 0 < p.size) (w : World) :
    Calls Try.prog 24 #[.string p] w fun e w' => ∃ g, e = .returned (.slice (some ⟨g, 0, none⟩) p.size p.size) ∧ BdAt w' g (bl p) p.size ∧ Below w.heap.size w w' := by
  have hmk := make_i32 p.size (by omega)
  have hbl := bl_length p
  have HBL := Lib.hid hbl
  clear hbl
  have hw0 : IntKind.i64.wrap ((p.size : Int) - 1) = (p.size : Int) - 1 := IntWalk.i64_in _ (by omega)
  go_enter Try.func24, Try.ntmps24
  go_wp2
  go_loopw [4, 12] (fun kv i wr => ∃ m : Nat, 0 < m ∧ m ≤ p.size ∧ i = .int .i64 ((m : Int) - 1) ∧ kv = .int .i64 ((st (bl p) (((bl p).take m).drop 1) : Nat) : Int) ∧ Blk wr w.heap.size 21 (nums .i32 p.size (bdTo (bl p) m)) ∧ Below w.heap.size w wr)
    (fun _ i _ => p.size - (intOf i).toNat)
  case atStart =>
    refine ⟨1, by omega, by omega, rfl, ?_, ?_, bal (Below.refl _ _) _⟩
    · have e : st (bl p) (((bl p).take 1).drop 1) = 0 := bd_one _
      rw [e]; rfl
    · have e : nums .i32 p.size (bdTo (bl p) 1) = nums .i32 p.size fun _ => 0 := nums_ext fun i _ => by
        unfold bdTo
        by_cases hi : i < 1
        · obtain rfl : i = 0 := by omega
          rw [if_pos hi, bd_one]; rfl
        · rw [if_neg hi]
      rw [e]
      exact Blk.new _ _ _
  case round =>
    obtain ⟨m, hm0, hm, rfl, rfl, hM, hB⟩ := hrel
    by_cases hlt : m < p.size
    · have hi1 : (m : Int) - 1 < (p.size : Int) - 1 := by omega
      have hw1 : IntKind.i64.wrap ((m : Int) - 1 + 1) = (m : Int) := by rw [show (m : Int) - 1 + 1 = (m : Int) by omega]; exact IntWalk.i64_in _ (by omega)
      have j0 : (0 : Int) ≤ (m : Int) := by omega
      have j1 : (m : Int) < (p.size : Int) := by omega
      have np := UInt8.toNat_lt (p[m]'hlt)
      have eg := Lib.hid (byte_get p m hlt)
      have hlm : m < (bl p).length := by rw [HBL.out]; exact hlt
      have hk := bd_lt (bl p) m hm0
      have HO := Lib.hid (onward_any p hp h0 w.heap.size p.size p.size m (by omega) (((bl p).take m).drop 1) (by unfold bd at hk; omega) (p[m]'hlt) wr (bdAt_of hM (by omega)))
      have hn := bd_next (bl p) m hm0 hlm
      rw [eg.out] at hn
      rw [← hn] at HO
      have hl2 := bd_le (bl p) (m + 1)
      rw [HBL.out] at hl2
      have HD := Lib.hid (show st (bl p) (((bl p).take (m + 1)).drop 1) = bd (bl p) (m + 1) from rfl)
      have HT := Lib.hid (bdTo_next (bl p) m)
      clear hn hlm hk
      generalize bd (bl p) (m + 1) = z at *
      have hwz : IntKind.i32.wrap (z : Int) = (z : Int) := IntWalk.i32_in _ (by omega)
      generalize st (bl p) (((bl p).take m).drop 1) = y at *
      go_wp2_with fail
      refine HO.out.mono ?_
      rintro e w1 ⟨rfl, hb1⟩
      have hB1 := btr hB hb1
      have hM1 := hM.below hb1 hM.lt
      have h1 := hM1.set m (.int .i32 (z : Int))
      rw [nums_set, HT.out] at h1
      have hs := (hM1.cell m).trans (nums_get _ _ _ m hlt)
      have hsf := hM1.frozen m
      clear hM hB hb1
      go_wp2
      go_roundw
      case rel => exact ⟨m + 1, by omega, by omega, by go_num, by rw [HD.out], h1, hB1.setCell (by simp) _⟩
      case measure => simp [intOf]; omega
    · obtain rfl : m = p.size := by omega
      have hA := Lib.hid (bdAt_of hM (Nat.le_refl _))
      clear hM
      go_wp2
      go_ret
      exact ⟨_, rfl, hA.out, hB⟩

set_option maxRecDepth 100000 in
set_option maxHeartbeats 1000000 in
theorem count_any (s p : ByteArray) (hs : s.size ≤ 2147483647) (hp : p.size ≤ 2147483647) (w : World) :
    Calls Try.prog 18 #[.string s, .string p] w fun e w' => e = .returned (.int .i64 ((cntN (bl s) (bl p) (s.size + 1) : Nat) : Int)) ∧ Below w.heap.size w w' := by
  have hbp := bl_length p
  have hbs := bl_length s
  by_cases h0 : p.size = 0
  · have hq : (p.toList == (ByteArray.mk #[]).toList) = true := by
      rw [eq_bl, decide_eq_true_iff, List.eq_nil_of_length_eq_zero (hbp.trans h0)]; rfl
    have hq' : (p.toList == ([] : List UInt8)) = true := by
      rw [toList_bl, List.eq_nil_of_length_eq_zero (hbp.trans h0)]; rfl
    have hw : IntKind.i64.wrap ((s.size : Int) + 1) = (s.size : Int) + 1 := IntWalk.i64_in _ (by omega)
    have HE := Lib.hid (show ((s.size : Int) + 1) = ((cntN (bl s) (bl p) (s.size + 1) : Nat) : Int) by
      rw [List.eq_nil_of_length_eq_zero (hbp.trans h0), cntN_nil]; omega)
    go_enter Try.func18, Try.ntmps18
    go_wp2
    go_ret
    exact ⟨ret_int HE.out, Below.refl _ _⟩
  · have hne : bl p ≠ [] := fun e => h0 (by rw [← hbp, e]; rfl)
    have hq : (p.toList == (ByteArray.mk #[]).toList) = false := by
      rw [eq_bl, decide_eq_false_iff_not]
      exact fun e => hne e
    have hq' : (p.toList == ([] : List UInt8)) = false := by
      rw [toList_bl]
      cases e : bl p with
      | nil => exact absurd e hne
      | cons a l => rfl
    have hq'' : p.toList.isEmpty = false := by
      rw [toList_bl]
      cases e : bl p with
      | nil => exact absurd e hne
      | cons a l => rfl
    by_cases hlt : s.size < p.size
    · have hli : (s.size : Int) < (p.size : Int) := by omega
      have HE := Lib.hid (cntN_far (bl s) (bl p) (by omega) (s.size + 1))
      clear hne hbp hbs
      go_enter Try.func18, Try.ntmps18
      go_wp2
      go_ret
      exact ⟨by rw [HE.out]; rfl, Below.refl _ _⟩
    · have hli : ¬ (s.size : Int) < (p.size : Int) := by omega
      have hp0 : 0 < p.size := by omega
      have HA := Lib.hid (endN_all (bl s) (bl p) (by omega))
      rw [hbs] at HA
      have HBP := Lib.hid hbp
      have HBS := Lib.hid hbs
      have HBO := Lib.hid (borders_any p hp hp0)
      clear hne hbp hbs
      go_enter Try.func18, Try.ntmps18
      go_wp2_with fail
      refine (HBO.out _).mono ?_
      rintro e w1 ⟨g, rfl, hG, hb1⟩
      have HG := Lib.hid hG
      clear hG
      go_wp2
      go_loopw [6, 7, 23] (fun n k i wr => ∃ m : Nat, m ≤ s.size ∧ i = .int .i64 (m : Int) ∧ n = .int .i64 ((endN (bl s) (bl p) m : Nat) : Int) ∧ k = .int .i64 ((st (bl p) ((bl s).take m) : Nat) : Int) ∧ BdAt wr g (bl p) p.size ∧ Below w.heap.size w wr)
        (fun _ _ i _ => s.size - (intOf i).toNat)
      case atStart => exact ⟨0, Nat.zero_le _, rfl, rfl, by rw [List.take_zero, st_nil]; rfl, HG.out, hb1⟩
      case round =>
        obtain ⟨m, hm, rfl, rfl, rfl, hG, hB⟩ := hrel
        by_cases hlm : m < s.size
        · have hi1 : (m : Int) < (s.size : Int) := by omega
          have hi0 : (0 : Int) ≤ (m : Int) := by omega
          have ns := UInt8.toNat_lt (s[m]'hlm)
          have eg := Lib.hid (byte_get s m hlm)
          have hls : m < (bl s).length := by rw [HBS.out]; exact hlm
          have hst := st_le (bl p) ((bl s).take m)
          rw [HBP.out] at hst
          have HO := Lib.hid (onward_any p hp hp0 g p.size p.size p.size (Nat.le_refl _) ((bl s).take m) hst (s[m]'hlm) wr hG)
          rw [← eg.out, ← List.take_succ_eq_append_getElem hls, eg.out] at HO
          have hz := st_le (bl p) ((bl s).take (m + 1))
          rw [HBP.out] at hz
          have HN := Lib.hid (show endN (bl s) (bl p) (m + 1) = endN (bl s) (bl p) m + if st (bl p) ((bl s).take (m + 1)) = (bl p).length then 1 else 0 from rfl)
          rw [HBP.out] at HN
          have he := endN_le (bl s) (bl p) m
          clear hls
          generalize hze : st (bl p) ((bl s).take (m + 1)) = z at *
          have HZE := Lib.hid hze
          clear hze
          generalize st (bl p) ((bl s).take m) = y at *
          generalize endN (bl s) (bl p) m = c at *
          have hwc : IntKind.i64.wrap ((c : Int) + 1) = (c : Int) + 1 := IntWalk.i64_in _ (by omega)
          by_cases hzp : z = p.size
          · have hzi : ((z : Int) == (p.size : Int)) = true := by simp; omega
            rw [if_pos hzp] at HN
            clear hzp
            go_wp2_with fail
            refine HO.out.mono ?_
            rintro e w2 ⟨rfl, hb2⟩
            have hB2 := btr hB hb2
            have hG2 := hG.below hb2 hG.1 hb2.size
            clear hG hB hb2
            go_wp2
            go_roundw
            case rel => exact ⟨m + 1, by omega, by go_num, by rw [HN.out]; go_num, by rw [HZE.out], hG2, hB2⟩
            case measure => simp [intOf]; omega
          · have hzi : ((z : Int) == (p.size : Int)) = false := by simp; omega
            rw [if_neg hzp] at HN
            clear hzp
            go_wp2_with fail
            refine HO.out.mono ?_
            rintro e w2 ⟨rfl, hb2⟩
            have hB2 := btr hB hb2
            have hG2 := hG.below hb2 hG.1 hb2.size
            clear hG hB hb2
            go_wp2
            go_roundw
            case rel => exact ⟨m + 1, by omega, by go_num, by rw [HN.out]; rfl, by rw [HZE.out], hG2, hB2⟩
            case measure => simp [intOf]; omega
        · obtain rfl : m = s.size := by omega
          go_wp2
          go_ret
          exact ⟨by rw [HA.out]; rfl, hB⟩
end Go.Proofs.Ytpcmmbbdpgfdnaa
