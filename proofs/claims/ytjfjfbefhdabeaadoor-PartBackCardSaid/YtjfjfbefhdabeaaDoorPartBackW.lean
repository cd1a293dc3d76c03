/-
  The walk of the statement PartBack: of any row of sets and any row of numbers it returns true; nothing that was there before the call has changed. Conditions: the sets and the numbers lie in memory as slices; the table of math/bits as it is laid.
-/
import Derived.Test.YtjfjfbefhdabeaaDoorPartBackM
import Derived.Test.YtjfjfbefhdabeaaDoorPartAwake
import Derived.Test.YtjfjfbefhdabeaaDoorPartSameR
import Derived.Test.YtjfjfbefhdabeaaDoorPartSets
import Derived.Deep.RegionHeld3
namespace Go.Proofs.YtjfjfbefhdabeaaDoor
open Go.RowKit

theorem setC {w : World} {b8 : Nat} {A : Nat → Bool} (h : Blk w b8 35 (cells4 A)) (T : Nat → Bool) :
    Blk ((((w.setCell ⟨b8, 0, none⟩ (.int .u64 ((wd T 0 : Nat) : Int))).setCell ⟨b8, 1, none⟩ (.int .u64 ((wd T 1 : Nat) : Int))).setCell ⟨b8, 2, none⟩ (.int .u64 ((wd T 2 : Nat) : Int))).setCell ⟨b8, 3, none⟩ (.int .u64 ((wd T 3 : Nat) : Int))) b8 35 (cells4 T) :=
  (((h.set 0 _).set 1 _).set 2 _).set 3 _

set_option maxRecDepth 100000 in
set_option maxHeartbeats 2000000 in
theorem partBack_main (ao bo : Option Addr) (len cap n bc : Nat) (L : List (Nat → Bool)) (xs : List Int) (hl : L.length = len) (hn : xs.length = n) (hlen : len ≤ 30) (hlen2 : n ≤ 300) (w : World) (hT : Tab w) (hS : SAt w ao L w.heap.size) (hX : IAt w bo xs w.heap.size) :
    Calls Tryd.prog 5 #[.slice ao len cap, .slice bo n bc] w fun e w' => e = .returned (.bool true) ∧ Below w.heap.size w w' := by
  have HL := Lib.hid hl
  have HN := Lib.hid hn
  have HS := Lib.hid hS
  have HX := Lib.hid hX
  have HT := Lib.hid hT
  have hgd := guard25
  clear hl hn hS hX hT
  have hg1 : ¬ (30 : Int) < (len : Int) := by omega
  have hg2 : ¬ (300 : Int) < (n : Int) := by omega
  go_enter Tryd.func5, Tryd.ntmps5
  go_wp2_with fail
  refine (parts_any (H := Unit) ao len cap L HL.out (by omega) w HS.out).mono ?_
  rintro e w1 ⟨v, rfl, hown, hb1⟩
  obtain ⟨po, pc, rfl, hat⟩ := SAt.of_owns hown
  have hB1 := hb1
  have hT1 := HT.out.below' hb1
  have hpl := parts_length_le L
  have hpp := Lib.hid ((parts_pt L).isPart)
  have hrg := Lib.hid (fi_parts_rgs L)
  have hpf := Lib.hid (prts_fi_parts L)
  have hov := Lib.hid (ov_parts L)
  clear hown hb1
  generalize parts L = PP at *
  obtain ⟨pn, hpn⟩ : ∃ pn, PP.length = pn := ⟨_, rfl⟩
  have HPN := Lib.hid hpn
  rw [hpn] at hpl hov ⊢
  clear hpn
  go_wp2_with fail
  refine (class_any po pn pc PP HPN.out (by omega) w1 hT1 hat hpp.out).mono ?_
  rintro e w2 ⟨co, rfl, hci, hb2⟩
  have hB2 := btr hB1 hb2
  have hat2 := hat.below hb2 (Nat.le_refl _)
  have hsz2 := hb2.size
  clear hat hb2 hB1 hT1
  go_wp2_with fail
  refine (sets_any co 256 (ints (fi PP)) w2 hci (ints_ok hrg.out)).mono ?_
  rw [ints_prts, hpf.out]
  rintro e w3 ⟨v3, rfl, hown3, hb3⟩
  obtain ⟨qo, qc, rfl, hat3⟩ := SAt.of_owns hown3
  rw [HPN.out]
  have hB3 := btr hB2 hb3
  have hatp := (hat2.below hb3 hsz2).mono (show w1.heap.size ≤ w3.heap.size by have := hb3.size; omega)
  clear hci hown3 hb3 hB2 hat2
  go_wp2_with fail
  refine (same_any po qo pn pc qc PP HPN.out (by omega) w3 hatp hat3).mono ?_
  rintro e w6 ⟨rfl, hb6⟩
  have HB6 := Lib.hid (btr hB3 hb6)
  have HP6 := Lib.hid ((hatp.below hb6 (Nat.le_refl _)).mono hb6.size)
  have hsz6 := HB6.out.size
  clear hatp hat3 hb6 hB3
  go_wp2_with fail
  go_loopw [11] (fun i wr => ∃ k : Nat, k ≤ len ∧ i = .int .i64 k ∧ Below w6.heap.size w6 wr)
    (fun i _ => len - (intOf i).toNat)
  case atStart => exact ⟨0, Nat.zero_le _, rfl, Below.refl _ _⟩
  case round =>
    obtain ⟨i, hi, rfl, hB⟩ := hrel
    by_cases hlt : i < len
    · obtain ⟨g', off', rfl, hg', hc'⟩ := HS.out (by rw [HL.out]; omega)
      have HC' := Lib.hid ((hc' i (by rw [HL.out]; exact hlt)).below HB6.out hg')
      obtain ⟨l, hl1, hl2, hl3, hl4⟩ := hov.out i (by rw [HL.out]; exact hlt)
      have HL1 := Lib.hid hl1
      have HL2 := Lib.hid hl2
      have HL4 := Lib.hid hl4
      clear hc' hl1 hl2 hl4
      generalize L.getD i no = T at HC' HL1 HL4
      have hlti : (i : Int) < (len : Int) := by omega
      obtain ⟨t0, t1, t2, t3⟩ := HC'.out.below hB (show g' < w6.heap.size by omega)
      have hTr := HT.out.below' (HB6.out.trans (hB.mono hsz6))
      have hPr := (HP6.out.below hB (Nat.le_refl _)).mono hB.size
      go_wp2_with fail
      refine (over_yes po pn pc PP T HPN.out (by omega) _ hTr hPr hpp.out l HL1.out).mono ?_
      rintro e w7 ⟨io, ic, rfl, hil, hb7⟩
      have HB7 := Lib.hid (btr hB hb7)
      have HI7 := Lib.hid hil
      have hsz7 := (btr hB hb7).size
      clear t0 t1 t2 t3 hTr hPr hB hb7 hil
      obtain ⟨ln, hln⟩ : ∃ ln, l.length = ln := ⟨_, rfl⟩
      have HLN := Lib.hid hln
      rw [hln] at hl3 ⊢
      clear hln
      go_wp2_with fail
      go_loopw [15] (fun kk wr => ∃ k : Nat, k ≤ ln ∧ kk = .int .i64 k ∧ Blk wr w7.heap.size 35 (cells4 (accL PP (l.take k))) ∧ Below w7.heap.size w7 wr)
        (fun kk _ => ln - (intOf kk).toNat)
      case atStart => exact ⟨0, Nat.zero_le _, rfl, Blk.new _ _ _, bal (Below.refl _ _) _⟩
      case round =>
        obtain ⟨k, hk, rfl, hA, hB⟩ := hrel
        by_cases hkl : k < ln
        · obtain ⟨g2, off2, rfl, hg2, hc2⟩ := HI7.out (by rw [List.length_map, HLN.out]; omega)
          have hkl' : k < l.length := by rw [HLN.out]; exact hkl
          have cx := (hB.cell (p := ⟨g2, off2 + k, none⟩) hg2).trans (hc2 k (by rw [List.length_map]; exact hkl'))
          have hxg : (l.map fun x : Nat => (x : Int)).getD k 0 = ((l.getD k 0 : Nat) : Int) := by simp [List.getD, hkl']
          rw [hxg] at cx
          have hxl := HL2.out (l.getD k 0) (by rw [List.getD, List.getElem?_eq_getElem hkl']; exact List.getElem_mem hkl')
          have hac := Lib.hid (accL_take PP l k hkl')
          clear hc2 hxg hkl'
          generalize l.getD k 0 = x at cx hxl hac
          obtain ⟨g, off, rfl, hg, hc⟩ := HP6.out (by rw [HPN.out]; omega)
          obtain ⟨s0, s1, s2, s3⟩ := ((hc x (by rw [HPN.out]; exact hxl)).below HB7.out hg).below hB (by omega)
          clear hc
          generalize PP.getD x no = S at s0 s1 s2 s3 hac
          generalize accL PP (l.take k) = A at hA hac
          obtain ⟨a0, a1, a2, a3⟩ := hA.cells
          have hkli : (k : Int) < (ln : Int) := by omega
          have hx1 : ¬ (x : Int) < 0 := by omega
          have hx2 : ¬ (pn : Int) ≤ (x : Int) := by omega
          have hx3 : (x : Int) < (pn : Int) := by omega
          have hx4 : (0 : Int) ≤ (x : Int) := by omega
          go_wp2_with fail
          have hA0 : Blk wr.drew w7.heap.size 35 (cells4 A) := hA
          have hB0 : Below w7.heap.size w7 wr.drew := hB.drew
          clear hA hB
          go_region_with (first | (go_at_call 19; refine (any_to _ _ _).mono ?_; rintro e w9 ⟨rfl, hb9⟩; have hA9 := hA0.below hb9 hA0.lt; obtain ⟨d0, d1, d2, d3⟩ := hA9.cells; have f0 := hA9.frozen 0; have f1 := hA9.frozen 1; have f2 := hA9.frozen 2; have f3 := hA9.frozen 3))
          all_goals
            have hlow := lowA w9 w7.heap.size (.int .u64 ((wd (cor A S) 0 : Nat) : Int)) (.int .u64 ((wd (cor A S) 1 : Nat) : Int)) (.int .u64 ((wd (cor A S) 2 : Nat) : Int)) (.int .u64 ((wd (cor A S) 3 : Nat) : Int))
            clear a0 a1 a2 a3 d0 d1 d2 d3 f0 f1 f2 f3 s0 s1 s2 s3 cx
            go_wp2
            go_roundw
            case rel => exact ⟨k + 1, by omega, by go_num, by rw [hac.out]; exact setC hA9 _, (btr hB0 hb9).trans hlow⟩
            case measure => simp [intOf]; omega
        · obtain rfl : k = ln := by omega
          have htk : l.take k = l := by rw [← HLN.out]; exact List.take_length
          rw [htk] at hA
          obtain ⟨a0, a1, a2, a3⟩ := hA.cells
          obtain ⟨t0, t1, t2, t3⟩ := (HC'.out.below HB7.out (show g' < w6.heap.size by omega)).below hB (show g' < w7.heap.size by omega)
          have hq : ∀ w, (Op.equalIn 10000 35 (sv (accL PP l)) (sv T)).run Tryd.prog w = .ok true w := fun w => (eq_sets2 (accL PP l) T w).trans (by rw [HL4.out])
          have HB := Lib.hid (HB7.out.trans (hB.mono hsz7))
          clear hB htk hA
          go_wp2_with fail
          go_quiet (fail)
          go_wp2
          go_roundw
          case rel => exact ⟨i + 1, by omega, by go_num, below_drewN HB.out _⟩
          case measure => simp [intOf]; omega
    · obtain rfl : i = len := by omega
      have hB8 := HB6.out.trans (hB.mono hsz6)
      have hT8 := HT.out.below' hB8
      have hX8 := (HX.out.below hB8 (Nat.le_refl _)).mono hB8.size
      clear hB
      by_cases hok : ClassOk xs
      · have h256 : n = 256 := HN.out.symm.trans hok.len
        subst h256
        have hback := Lib.hid (ints_back hok)
        have hpt := Lib.hid (prts_pt hok.rgs).isPart
        have hnb := nx_le (natOf xs) 256 hok.rgs
        have hpl2 := prts_length (natOf xs) 256
        go_wp2_with fail
        refine (sets_any bo bc xs wr hX8 hok).mono ?_
        rintro e w9 ⟨v9, rfl, hown9, hb9⟩
        obtain ⟨qo9, qc9, rfl, hat9⟩ := SAt.of_owns hown9
        have hB9 := btr hB8 hb9
        have hT9 := hT8.below' hb9
        have hX9 := (hX8.below hb9 (Nat.le_refl _)).mono hb9.size
        rw [← hpl2] at hnb
        clear hown9 hb9 hB8 hT8 hX8 hpl2
        generalize prts (natOf xs) 256 = R at *
        go_wp2_with fail
        refine (class_any qo9 _ qc9 R rfl (by omega) w9 hT9 hat9 hpt.out).mono ?_
        rw [hback.out]
        rintro e w10 ⟨yo, rfl, hyi, hb10⟩
        have hB10 := btr hB9 hb10
        have hT10 := hT9.below' hb10
        have hX10 := (hX9.below hb10 (Nat.le_refl _)).mono hb10.size
        clear hat9 hb10 hB9 hT9 hX9
        go_wp2_with fail
        refine (awake_part w10 hT10).mono ?_
        rintro e w11 ⟨rfl, hb11⟩
        have hB11 := btr hB10 hb11
        have hX11 := (hX10.below hb11 (Nat.le_refl _)).mono hb11.size
        have hY11 := (hyi.below hb11 (Nat.le_refl _)).mono hb11.size
        clear hb11 hB10 hT10 hX10 hyi
        go_wp2_with fail
        refine (ints_any yo bo 256 256 bc xs HN.out (by decide) w11 hY11 hX11).mono ?_
        rintro e w12 ⟨rfl, hb12⟩
        have hB12 := btr hB11 hb12
        clear hb12 hB11 hX11 hY11
        go_wp2
        go_ret
        exact ⟨rfl, hB12⟩
      · go_wp2_with fail
        refine (sets_bad bo n bc xs HN.out wr hX8 hok).mono ?_
        rintro e w9 ⟨rfl, hb9⟩
        have hB9 := btr hB8 hb9
        have hT9 := hT8.below' hb9
        clear hb9 hB8 hT8 hX8
        go_wp2_with fail
        refine (awake_part w9 hT9).mono ?_
        rintro e w10 ⟨rfl, hb10⟩
        have hB10 := btr hB9 hb10
        clear hb10 hB9 hT9
        go_wp2
        go_ret
        exact ⟨rfl, hB10⟩
end Go.Proofs.YtjfjfbefhdabeaaDoor
