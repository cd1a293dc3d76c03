/-
  The walk of the statement TextLcp: of any two rows of texts and any two texts it returns true; nothing that was there before the call has changed. Conditions: the texts lie in memory as slices; sizes up to 2^47.
-/
import Derived.Test.YtpcmmbbdpgfdnaaTextDoesW
import Derived.Laws.Concat
namespace Go.Proofs.Ytpcmmbbdpgfdnaa
open Go.RowKit

theorem lcpL_short {L : List (List UInt8)} {m : Nat} (h : ∀ l ∈ L, l.length ≤ m) : (lcpL L).length ≤ m := by
  cases L with
  | nil => exact Nat.zero_le _
  | cons x r =>
    have := ((lcpL_spec (l := x :: r) (by simp)).all x (List.mem_cons_self ..)).length_le
    have := h x (List.mem_cons_self ..)
    omega
theorem two_strs (W : World) (a b : List UInt8) : TAt (W.alloc (.cells #[.string (mkS a), .string (mkS b)] 9)) (some ⟨W.heap.size, 0, none⟩) [a, b] (W.alloc (.cells #[.string (mkS a), .string (mkS b)] 9)).heap.size := by
  have := two_at W (mkS a) (mkS b)
  rwa [bl_mkS, bl_mkS] at this

set_option maxRecDepth 100000 in
set_option maxHeartbeats 1000000 in
theorem textLcp_main (ao bo : Option Addr) (len cap len2 cap2 : Nat) (L M : List (List UInt8)) (f s : ByteArray) (hl : L.length = len) (hl2 : M.length = len2) (hsh : ShortL L) (hsh2 : ShortL M) (hfs : f.size + s.size ≤ 600) (hcp : len ≤ cap) (hcp2 : len2 ≤ cap2) (hm : len ≤ maxLen) (hm2 : len2 ≤ maxLen) (w : World) (hS : TAt w ao L w.heap.size) (hS2 : TAt w bo M w.heap.size) :
    Calls Try.prog 6 #[.slice ao len cap, .slice bo len2 cap2, .string f, .string s] w fun e w' => e = .returned (.bool true) ∧ Below w.heap.size w w' := by
  have HL := Lib.hid hl
  have HL2 := Lib.hid hl2
  have HS := Lib.hid hS
  have HS2 := Lib.hid hS2
  have h60 := hsh.1
  have h602 := hsh2.1
  rw [hl] at h60
  rw [hl2] at h602
  have hmem := Lib.hid hsh.2
  have hmem2 := Lib.hid hsh2.2
  have SH := Lib.hid (short_any ao len cap L hl hm w hS)
  rw [(shortB_iff L).2 hsh] at SH
  have SH2 := Lib.hid (fun w' h => short_any bo len2 cap2 M hl2 hm2 w' h)
  rw [(shortB_iff M).2 hsh2] at SH2
  have hone := Lib.hid (show len ≠ 0 → len2 ≠ 0 → mkS (lcpL (L ++ M)) = mkS (lcpL [lcpL L, lcpL M]) from fun h1 h2 => by
    rw [lcpL_append (fun e => h1 (by rw [← hl, e]; rfl)) (fun e => h2 (by rw [← hl2, e]; rfl))])
  clear hl hl2 hS hS2 hsh hsh2
  have hwg : IntKind.i64.wrap ((f.size : Int) + (s.size : Int)) = (f.size : Int) + (s.size : Int) := IntWalk.i64_in _ (by omega)
  have gg : ¬ (600 : Int) < (f.size : Int) + (s.size : Int) := by omega
  have z0 : f.size + s.size ≤ 9223372036854775807 := by omega
  go_enter Try.func6, Try.ntmps6
  go_wp2_with fail
  refine SH.out.mono ?_
  rintro e w1 ⟨rfl, hb1⟩
  have a1 := (HS.out.below hb1 (Nat.le_refl _)).mono hb1.size
  have b1 := (HS2.out.below hb1 (Nat.le_refl _)).mono hb1.size
  go_wp2_with fail
  refine (SH2.out w1 b1).mono ?_
  rintro e w2 ⟨rfl, hb2⟩
  have hB2 := btr hb1 hb2
  have a2 := (a1.below hb2 (Nat.le_refl _)).mono hb2.size
  have b2 := (b1.below hb2 (Nat.le_refl _)).mono hb2.size
  have hown0 : w2.ownsRow w2.heap.size 9 1 (.slice none 0 0) 0 (strCells []) := World.ownsRow_nil _ _ _ _
  clear hb1 hb2 a1 b1
  go_wp2_with (first | (at_builtin; refine wpList_append_strs _ rfl _ _ rfl w2.heap.size (.slice none 0 0) 0 [] rfl hown0 ao len cap L rfl HL.out a2 (by omega) (Nat.le_refl _) ?_; intro v3 w3 hown3 hg3; have hlow3 := grown_lowT hown0 (Nat.le_refl _) hg3; have hsz3 := hlow3.size; have b3 := b2.below hlow3 (Nat.le_refl _); rw [Nat.zero_add, List.nil_append] at hown3) | (at_builtin; refine wpList_append_strs _ rfl _ _ rfl w2.heap.size v3 len L rfl hown3 bo len2 cap2 M rfl HL2.out b3 (by omega) hsz3 ?_; intro v4 w4 hown4 hg4) | fail)
  have hlow4 := hlow3.trans (grown_lowT hown3 hsz3 hg4)
  have hlm : (L ++ M).length = len + len2 := by rw [List.length_append, HL.out, HL2.out]
  rw [← hlm] at hown4
  obtain ⟨p4, c4, rfl, hc4, u4⟩ := TAt.of_owns hown4
  rw [hlm] at hc4
  rw [hlm]
  have hB4 := btr hB2 hlow4
  have a4 := (a2.below hlow4 (Nat.le_refl _)).mono hlow4.size
  have b4 := (b2.below hlow4 (Nat.le_refl _)).mono hlow4.size
  clear hown0 hg3 hlow3 hsz3 b3 hown3 hg4 hown4 hlow4 hB2 a2 b2
  refine (lcp_any p4 (len + len2) c4 (L ++ M) hlm hc4 (by omega) (fun l h => by
    rcases List.mem_append.1 h with h | h
    · have := hmem.out l h; omega
    · have := hmem2.out l h; omega) w4 u4).mono ?_
  rintro e w5 ⟨rfl, hb5⟩
  have hB5 := btr hB4 hb5
  have a5 := (a4.below hb5 (Nat.le_refl _)).mono hb5.size
  have b5 := (b4.below hb5 (Nat.le_refl _)).mono hb5.size
  clear hB4 hb5 a4 b4 u4 hlm
  go_wp2_with fail
  refine (lcp_any ao len cap L HL.out hcp (by omega) (fun l h => by have := hmem.out l h; omega) w5 a5).mono ?_
  rintro e w6 ⟨rfl, hb6⟩
  have hB6 := btr hB5 hb6
  have b6 := (b5.below hb6 (Nat.le_refl _)).mono hb6.size
  clear hB5 hb6 a5 b5
  go_wp2_with fail
  refine (lcp_any bo len2 cap2 M HL2.out hcp2 (by omega) (fun l h => by have := hmem2.out l h; omega) w6 b6).mono ?_
  rintro e w7 ⟨rfl, hb7⟩
  have hB7 := btr hB6 hb7
  clear hB6 hb7 b6
  have x1 := lcpL_short hmem.out
  have x2 := lcpL_short hmem2.out
  go_wp2_with fail
  have hat := two_strs w7 (lcpL L) (lcpL M)
  refine (lcp_any _ 2 2 [lcpL L, lcpL M] rfl (by decide) (by decide) (fun l h => by
    rw [List.mem_cons, List.mem_singleton] at h
    rcases h with rfl | rfl <;> omega) _ hat).mono ?_
  rintro e w8 ⟨rfl, hb8⟩
  have hB8 := btr (bal hB7 _) hb8
  clear hB7 hb8 hat x1 x2
  have hst := Lib.hid (show beg (bl f) (bl s) = true → f ++ mkS ((bl s).drop (bl f).length) = s from fun h => bl_inj (by
    rw [bl_append, bl_mkS]
    have h1 := h
    unfold beg at h1
    rw [decide_eq_true_iff] at h1
    conv => lhs; lhs; rw [← h1]
    exact List.take_append_drop _ _))
  have HST2 := Lib.hid (strip_yes f (f ++ s) (by omega) (by rw [ByteArray.size_append]; omega) (by rw [beg_iff, bl_append]; exact List.prefix_append _ _))
  rw [bl_append, List.drop_left, mkS_bl] at HST2
  have q1 : (s.toList == s.toList) = true := beq_self_eq_true _
  generalize mkS (lcpL (L ++ M)) = one at *
  generalize mkS (lcpL [lcpL L, lcpL M]) = two at *
  by_cases hbg : beg (bl f) (bl s) = true
  · have HST1 := Lib.hid (strip_yes f s (by omega) (by omega) hbg)
    have hsum := hst.out hbg
    have hts : (mkS ((bl s).drop (bl f).length)).size ≤ s.size := by rw [size_mkS, List.length_drop, bl_length]; omega
    generalize mkS ((bl s).drop (bl f).length) = t at *
    have q2 : ((f ++ t).toList == s.toList) = true := by rw [hsum]; exact q1
    have z1 : f.size + t.size ≤ 9223372036854775807 := by omega
    clear hbg hst hsum hts
    go_wp2_with fail
    refine (HST1.out w8).mono ?_
    rintro e w9 ⟨rfl, hb9⟩
    have hB9 := btr hB8 hb9
    clear hB8 hb9
    go_wp2_with fail
    refine (HST2.out w9).mono ?_
    rintro e w10 ⟨rfl, hb10⟩
    have hB10 := btr hB9 hb10
    clear hB9 hb10
    go_wp2_with fail
    refine (awake_text w10).mono ?_
    rintro e w11 ⟨rfl, hb11⟩
    have HH := Lib.hid (btr hB10 hb11)
    clear hB10 hb11
    by_cases hz1 : len = 0
    · have g1 : ((len : Int) == 0) = true := by rw [hz1]; rfl
      go_wp2
      go_ret
      exact ⟨rfl, HH.out⟩
    · have g1 : ((len : Int) == 0) = false := by rw [beq_eq_false_iff_ne]; omega
      by_cases hz2 : len2 = 0
      · have g2 : ((len2 : Int) == 0) = true := by rw [hz2]; rfl
        go_wp2
        go_ret
        exact ⟨rfl, HH.out⟩
      · have g2 : ((len2 : Int) == 0) = false := by rw [beq_eq_false_iff_ne]; omega
        have g3 := hone.out hz1 hz2
        subst g3
        have g4 : (one.toList == one.toList) = true := beq_self_eq_true _
        go_wp2
        go_ret
        exact ⟨rfl, HH.out⟩
  · rw [Bool.not_eq_true] at hbg
    have HST1 := Lib.hid (strip_no f s (by omega) (by omega) hbg)
    clear hbg hst
    generalize mkS [] = t at *
    go_wp2_with fail
    refine (HST1.out w8).mono ?_
    rintro e w9 ⟨rfl, hb9⟩
    have hB9 := btr hB8 hb9
    clear hB8 hb9
    go_wp2_with fail
    refine (HST2.out w9).mono ?_
    rintro e w10 ⟨rfl, hb10⟩
    have hB10 := btr hB9 hb10
    clear hB9 hb10
    go_wp2_with fail
    refine (awake_text w10).mono ?_
    rintro e w11 ⟨rfl, hb11⟩
    have HH := Lib.hid (btr hB10 hb11)
    clear hB10 hb11
    by_cases hz1 : len = 0
    · have g1 : ((len : Int) == 0) = true := by rw [hz1]; rfl
      go_wp2
      go_ret
      exact ⟨rfl, HH.out⟩
    · have g1 : ((len : Int) == 0) = false := by rw [beq_eq_false_iff_ne]; omega
      by_cases hz2 : len2 = 0
      · have g2 : ((len2 : Int) == 0) = true := by rw [hz2]; rfl
        go_wp2
        go_ret
        exact ⟨rfl, HH.out⟩
      · have g2 : ((len2 : Int) == 0) = false := by rw [beq_eq_false_iff_ne]; omega
        have g3 := hone.out hz1 hz2
        subst g3
        have g4 : (one.toList == one.toList) = true := beq_self_eq_true _
        go_wp2
        go_ret
        exact ⟨rfl, HH.out⟩
theorem textLcp_walk (ao bo : Option Addr) (len cap len2 cap2 : Nat) (L M : List (List UInt8)) (f s : ByteArray) (hl : L.length = len) (hl2 : M.length = len2) (hcp : len ≤ cap) (hcp2 : len2 ≤ cap2) (hm : len ≤ maxLen) (hm2 : len2 ≤ maxLen) (hf : f.size ≤ 140737488355328) (hs : s.size ≤ 140737488355328) (w : World) (hS : TAt w ao L w.heap.size) (hS2 : TAt w bo M w.heap.size) :
    Calls Try.prog 6 #[.slice ao len cap, .slice bo len2 cap2, .string f, .string s] w fun e w' => e = .returned (.bool true) ∧ Below w.heap.size w w' := by
  have SH := Lib.hid (short_any ao len cap L hl hm w hS)
  by_cases h1 : ShortL L
  · rw [(shortB_iff L).2 h1] at SH
    have SH2 := Lib.hid (fun w' h => short_any bo len2 cap2 M hl2 hm2 w' h)
    by_cases h2 : ShortL M
    · by_cases h3 : f.size + s.size ≤ 600
      · exact textLcp_main ao bo len cap len2 cap2 L M f s hl hl2 h1 h2 h3 hcp hcp2 hm hm2 w hS hS2
      · have hwg : IntKind.i64.wrap ((f.size : Int) + (s.size : Int)) = (f.size : Int) + (s.size : Int) := IntWalk.i64_in _ (by omega)
        have gg : (600 : Int) < (f.size : Int) + (s.size : Int) := by omega
        rw [(shortB_iff M).2 h2] at SH2
        have HS2 := Lib.hid hS2
        clear hS hS2 hl hl2 h1 h2 h3
        go_enter Try.func6, Try.ntmps6
        go_wp2_with fail
        refine SH.out.mono ?_
        rintro e w1 ⟨rfl, hb1⟩
        have b1 := (HS2.out.below hb1 (Nat.le_refl _)).mono hb1.size
        go_wp2_with fail
        refine (SH2.out w1 b1).mono ?_
        rintro e w2 ⟨rfl, hb2⟩
        have hB2 := btr hb1 hb2
        clear hb1 hb2 b1
        go_wp2
        go_ret
        exact ⟨rfl, hB2⟩
    · rw [shortB_f h2] at SH2
      have HS2 := Lib.hid hS2
      clear hS hS2 hl hl2 h1 h2
      go_enter Try.func6, Try.ntmps6
      go_wp2_with fail
      refine SH.out.mono ?_
      rintro e w1 ⟨rfl, hb1⟩
      have b1 := (HS2.out.below hb1 (Nat.le_refl _)).mono hb1.size
      go_wp2_with fail
      refine (SH2.out w1 b1).mono ?_
      rintro e w2 ⟨rfl, hb2⟩
      have hB2 := btr hb1 hb2
      clear hb1 hb2 b1
      go_wp2
      go_ret
      exact ⟨rfl, hB2⟩
  · rw [shortB_f h1] at SH
    clear hS hS2 hl hl2 h1
    go_enter Try.func6, Try.ntmps6
    go_wp2_with fail
    refine SH.out.mono ?_
    rintro e w1 ⟨rfl, hb1⟩
    go_wp2
    go_ret
    exact ⟨rfl, hb1⟩
end Go.Proofs.Ytpcmmbbdpgfdnaa
