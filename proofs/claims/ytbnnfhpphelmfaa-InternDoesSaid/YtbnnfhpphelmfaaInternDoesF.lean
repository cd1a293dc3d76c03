/-
  The walk of the statement InternDoes, of any arguments. Conditions: the rows lie in memory as slices.
-/
import Derived.Test.YtbnnfhpphelmfaaInternDoesW
namespace Go.Proofs.Ytbnnfhpphelmfaa
open Go.RowKit

theorem RT.new (W : World) : RT (W.alloc (.cells #[.slice none 0 0] 33)) W.heap.size [] (fun k => k = W.heap.size) :=
  ⟨⟨.slice none 0 0, [], Blk.new _ _ _, World.ownsRow_nil _ _ _ _, fun k h => by simp [Value.ownBlock] at h, fun i hi => by simp at hi⟩, rfl, fun k hk => by subst hk; simp⟩
theorem both_new {n0 : Nat} {W : World} {a : Nat} {F : Nat → Prop} (h : Tb W a [] F) (hn : n0 ≤ W.heap.size) (hF : ∀ k, F k → n0 ≤ k) : Both n0 (W.alloc (.cells #[.slice none 0 0] 33)) a W.heap.size [] :=
  ⟨F, fun k => k = W.heap.size, h.below (bal (Below.refl _ _) _), RT.new W, fun k f g => by have := h.lt k f; omega, hF, fun k g => by omega⟩
theorem Both.rt {n0 : Nat} {W : World} {a b : Nat} {P : List (List Int)} (h : Both n0 W a b P) : ∃ vo vc, Blk W b 33 #[.slice vo P.length vc] := by
  obtain ⟨F, G, h1, h2, _⟩ := h.two
  obtain ⟨vo, vc, hb, _⟩ := h2.rs
  exact ⟨vo, vc, hb⟩
theorem both_size {n0 : Nat} {W : World} {a b : Nat} {P : List (List Int)} (hP : P.length ≤ 4096) (h : Both n0 W a b P) :
    Calls Try.prog 20 #[.pointer (some ⟨a, 0, none⟩)] W fun e w' => e = .returned (.int .i64 (P.length : Int)) ∧ Below W.heap.size W w' := by
  obtain ⟨F, G, h1, _⟩ := h.two
  exact size_any a P F hP W h1

theorem both_find {n0 : Nat} {W : World} {a b : Nat} {P : List (List Int)} {so : Option Addr} {ln sc : Nat} {xs : List Int} (hl : xs.length = ln) (hm : ln ≤ 60) (hR : Rng xs) (h : Both n0 W a b P) (hA : IAt W so xs W.heap.size) :
    Calls Try.prog 21 #[.pointer (some ⟨a, 0, none⟩), .slice so ln sc] W fun e w' => e = .returned (.tuple #[.int .i64 (fnd P (srt xs)).1, .bool (fnd P (srt xs)).2]) ∧ Below W.heap.size W w' := by
  obtain ⟨F, G, h1, _⟩ := h.two
  exact find_any a P F so ln sc xs hl (by omega) hR W h1 hA
theorem both_reffind {n0 : Nat} {W : World} {a b : Nat} {P : List (List Int)} {so : Option Addr} {ln sc : Nat} {xs : List Int} (hl : xs.length = ln) (hm : ln ≤ 60) (hP : P.length ≤ 4096) (h : Both n0 W a b P) (hA : IAt W so xs W.heap.size) :
    Calls Try.prog 22 #[.pointer (some ⟨b, 0, none⟩), .slice so ln sc] W fun e w' => e = .returned (.tuple #[.int .i64 (fnd P (srt xs)).1, .bool (fnd P (srt xs)).2]) ∧ Below W.heap.size W w' := by
  obtain ⟨F, G, _, h2, _⟩ := h.two
  exact reffind_any b P G so ln sc xs hl (by omega) (by omega) W h2 hA
theorem both_row {n0 : Nat} {W : World} {a b : Nat} {P : List (List Int)} (n : Int) (hn : -9223372036854775808 ≤ n ∧ n ≤ 9223372036854775807) (hP : P.length ≤ 4096) (h : Both n0 W a b P) :
    Calls Try.prog 23 #[.pointer (some ⟨a, 0, none⟩), .int .i64 n] W fun e w' => ∃ v, e = .returned (.tuple #[v, .int .i64 (rowE P n)]) ∧ w'.ownsRow W.heap.size 3 1 v (rowL P n).length (numCells (rowL P n)) ∧ Below W.heap.size W w' := by
  obtain ⟨F, G, h1, _⟩ := h.two
  exact row_any a P F n hn hP W h1
theorem both_refrow {n0 : Nat} {W : World} {a b : Nat} {P : List (List Int)} (n : Int) (hP : P.length ≤ 4096) (h : Both n0 W a b P) :
    Calls Try.prog 24 #[.pointer (some ⟨b, 0, none⟩), .int .i64 n] W fun e w' => ∃ v, e = .returned (.tuple #[v, .int .i64 (rowE P n)]) ∧ w'.ownsRow W.heap.size 3 1 v (rowL P n).length (numCells (rowL P n)) ∧ Below W.heap.size W w' := by
  obtain ⟨F, G, _, h2, _⟩ := h.two
  exact refrow_any b P G n (by omega) W h2
theorem rowL_len {P : List (List Int)} {n : Int} {m : Nat} (h : ∀ l ∈ P, l.length ≤ m) : (rowL P n).length ≤ m := by
  unfold rowL
  split
  · rename_i h1
    refine h _ ?_
    rw [List.getD, List.getElem?_eq_getElem (by omega)]
    exact List.getElem_mem _
  · exact Nat.zero_le _

set_option maxRecDepth 100000 in
set_option maxHeartbeats 4000000 in
theorem internDoes_main (ao bo : Option Addr) (la ca lb cb : Nat) (L M : List (List Int)) (n : Int) (hn : -9223372036854775808 ≤ n ∧ n ≤ 9223372036854775807) (hla : L.length = la) (hlb : M.length = lb) (hma : la ≤ maxLen) (hmb : lb ≤ maxLen) (f1 : FewL L) (f2 : FewL M) (hRL : RngL L) (hRM : RngL M) (w : World) (hA : RsAt w ao L w.heap.size) (hB : RsAt w bo M w.heap.size) :
    Calls Try.prog 4 #[.slice ao la ca, .slice bo lb cb, .int .i64 n] w fun e w' => e = .returned (.bool true) ∧ Below w.heap.size w w' := by
  have F1 := Lib.hid (few_any ao la ca L hla hma w hA)
  rw [(fewB_iff L).2 f1] at F1
  have F2 := Lib.hid (fun W h => few_any bo lb cb M hlb hmb W h)
  rw [(fewB_iff M).2 f2] at F2
  have HA := Lib.hid hA
  have HBB := Lib.hid hB
  have HLA := Lib.hid hla
  have HLB := Lib.hid hlb
  have h80 := f1.1
  have h802 := f2.1
  rw [hla] at h80
  rw [hlb] at h802
  have HM1 := Lib.hid f1.2
  have HRL := Lib.hid hRL
  have HRM := Lib.hid hRM
  have HM2 := Lib.hid f2.2
  clear hla hlb hA hB f1 f2 hRL hRM
  go_enter Try.func4, Try.ntmps4
  go_wp2_with fail
  refine F1.out.mono ?_
  rintro e w1 ⟨rfl, hb1⟩
  go_wp2_with fail
  refine (F2.out w1 ((HBB.out.below hb1 (Nat.le_refl _)).mono hb1.size)).mono ?_
  rintro e w2 ⟨rfl, hb2⟩
  have hB2 := btr hb1 hb2
  clear hb1 hb2
  go_wp2_with fail
  refine (new_any w2).mono ?_
  rintro e w3 ⟨a, F, rfl, hT, hb3, hF⟩
  have hB3 := btr hB2 hb3
  have hBo := both_new hT hB3.size (fun k h => Nat.le_trans hB2.size (hF k h))
  have hB4 := bal hB3 (.cells #[.slice none 0 0] 33)
  have HB4 := Lib.hid hB4
  have HBO := Lib.hid hBo
  clear hT hF hb3 hB2 hB3 hBo hB4
  go_wp2_with fail
  go_loopw [9] (fun i wr => ∃ (k : Nat) (P : List (List Int)), k ≤ la ∧ P.length ≤ k ∧ i = .int .i64 k ∧ Both w.heap.size wr a w3.heap.size P ∧ Below w.heap.size w wr)
    (fun i _ => la - (intOf i).toNat)
  case atStart => exact ⟨0, [], Nat.zero_le _, Nat.le_refl _, rfl, HBO.out, HB4.out⟩
  case round =>
    obtain ⟨k, P, hk, hP, rfl, hBo, hW⟩ := hrel
    clear HBO HB4
    by_cases hlt : k < la
    · obtain ⟨g, off, rfl, hg, hc⟩ := (RsAt.hid HLA.out HA.out).out (by omega)
      obtain ⟨so, sc, hsc, hsm, hcw⟩ := hc k hlt
      have hx60 := HM1.out k (by rw [HLA.out]; exact hlt)
      have ck := (hcw wr hW).1
      have hxi := (hcw w (Below.refl _ _)).2
      have HCK := Lib.hid (fun W h => (hcw W h).1)
      obtain ⟨xs, hxs⟩ : ∃ xs, L.getD k [] = xs := ⟨_, rfl⟩
      have HRX := Lib.hid (HRL.out.is hxs)
      rw [hxs] at hsc hx60 ck hxi HCK
      clear hc hcw hsm hxs
      have hlti : (k : Int) < (la : Int) := by omega
      have hk0 : (0 : Int) ≤ (k : Int) := by omega
      have HP := Lib.hid (both_put (so := so) (sc := sc) rfl hx60 HRX.out (by omega) hW.size hBo (hxi.below hW (Nat.le_refl _)))
      have hpl := putL_len P (srt xs)
      obtain ⟨q1, hq1⟩ : ∃ q, putN P (srt xs) = q := ⟨_, rfl⟩
      obtain ⟨q2, hq2⟩ : ∃ q, putB P (srt xs) = q := ⟨_, rfl⟩
      obtain ⟨q3, hq3⟩ : ∃ q, putE P (srt xs) = q := ⟨_, rfl⟩
      obtain ⟨P', hP'⟩ : ∃ q, putL P (srt xs) = q := ⟨_, rfl⟩
      rw [hq1, hq2, hq3, hP'] at HP
      rw [hP'] at hpl
      clear hq1 hq2 hq3 hP' hBo hxi
      go_wp2_with fail
      refine HP.out.mono ?_
      rintro e v1 ⟨rfl, hv1, hrest⟩
      have ck1 := HCK.out v1 (hW.trans hv1)
      have HR := Lib.hid hrest
      clear hrest HP ck
      go_wp2_with fail
      refine HR.out.mono ?_
      rintro e v2 ⟨rfl, hv2, hBo⟩
      have hW2 := hW.trans hv2
      clear HR ck1 hv1 hv2
      obtain ⟨vo, vc, hbx⟩ := hBo.rt
      have q11 : ∀ p : Past v2, p.w.cell? ⟨w3.heap.size, 0, none⟩ = some (.slice vo P'.length vc) := fun p => (hbx.below p.h hbx.lt).cell 0
      have HSZ := Lib.hid (fun p : Past v2 => both_size (W := p.w) (by omega) (hBo.below p.h))
      have HBO := Lib.hid hBo
      have z1 : (q1 != q1) = false := by simp
      have z2 : (q2 != q2) = false := by simp
      have z3 : (q3 != q3) = false := by simp
      have z4 : ((P'.length : Int) != (P'.length : Int)) = false := by simp
      clear hbx hBo
      go_wp2_with fail
      refine wp_region_past (by kernel_rfl) (by kernel_rfl) (Below.refl _ v2) ?_
      repeat (go_big_quiet_step ((exact Calls.past (HSZ.out _))))
      refine wpQuiet_nil ?_
      intro p
      have hW3 := btr hW2 p.h
      have hBo3 := HBO.out.below p.h
      obtain ⟨v3, hv3⟩ : ∃ v3, p.w = v3 := ⟨_, rfl⟩
      rw [hv3] at hW3 hBo3 ⊢
      clear hv3 q11 HSZ HBO
      go_wp2
      go_roundw
      case rel => exact ⟨k + 1, P', by omega, by omega, by go_num, hBo3, hW3⟩
      case measure => simp [intOf]; omega
    · obtain rfl : k = la := by omega
      have hnk : ¬ (k : Int) < (k : Int) := by omega
      have HBO := Lib.hid hBo
      have HW := Lib.hid hW
      clear hBo hW
      go_wp2_with fail
      go_loopw [16] (fun i wr => ∃ (j : Nat), j ≤ lb ∧ i = .int .i64 j ∧ Both w.heap.size wr a w3.heap.size P ∧ Below w.heap.size w wr)
        (fun i _ => lb - (intOf i).toNat)
      case atStart => exact ⟨0, Nat.zero_le _, rfl, HBO.out, HW.out⟩
      case round =>
        obtain ⟨j, hj, rfl, hBo, hW⟩ := hrel
        clear HBO HW
        by_cases hlt : j < lb
        · obtain ⟨g, off, rfl, hg, hc⟩ := (RsAt.hid HLB.out HBB.out).out (by omega)
          obtain ⟨so, sc, hsc, hsm, hcw⟩ := hc j hlt
          have hx60 := HM2.out j (by rw [HLB.out]; exact hlt)
          have ck := (hcw wr hW).1
          have HXI := Lib.hid (fun W h => (hcw W h).2)
          have HCK := Lib.hid (fun W h => (hcw W h).1)
          obtain ⟨xs, hxs⟩ : ∃ xs, M.getD j [] = xs := ⟨_, rfl⟩
          have HRX := Lib.hid (HRM.out.is hxs)
          rw [hxs] at hsc hx60 ck HXI HCK
          clear hc hcw hsm hxs
          have hlti : (j : Int) < (lb : Int) := by omega
          have hk0 : (0 : Int) ≤ (j : Int) := by omega
          have HF1 := Lib.hid (both_find (so := so) (sc := sc) rfl hx60 HRX.out hBo (HXI.out wr hW))
          have HF2 := Lib.hid (fun W (hb : Below wr.heap.size wr W) => both_reffind (so := so) (sc := sc) rfl hx60 (by omega) (hBo.below hb) (HXI.out W (btr hW hb)))
          obtain ⟨q1, hq1⟩ : ∃ q, (fnd P (srt xs)).1 = q := ⟨_, rfl⟩
          obtain ⟨q2, hq2⟩ : ∃ q, (fnd P (srt xs)).2 = q := ⟨_, rfl⟩
          rw [hq1, hq2] at HF1 HF2
          clear hq1 hq2 HXI
          have HBO := Lib.hid hBo
          clear hBo
          go_wp2_with fail
          refine HF1.out.mono ?_
          rintro e v1 ⟨rfl, hv1⟩
          have ck1 := HCK.out v1 (btr hW hv1)
          clear HF1 ck
          go_wp2_with fail
          refine (HF2.out v1 hv1).mono ?_
          rintro e v2 ⟨rfl, hv2⟩
          have hv3 := btr hv1 hv2
          have hW2 := btr hW hv3
          have hBo := HBO.out.below hv3
          clear HF2 ck1 hv1 hv2 HBO
          obtain ⟨vo, vc, hbx⟩ := hBo.rt
          have q11 : ∀ p : Past v2, p.w.cell? ⟨w3.heap.size, 0, none⟩ = some (.slice vo P.length vc) := fun p => (hbx.below p.h hbx.lt).cell 0
          have HSZ := Lib.hid (fun p : Past v2 => both_size (W := p.w) (by omega) (hBo.below p.h))
          have HBO := Lib.hid hBo
          have z1 : (q1 != q1) = false := by simp
          have z2 : (q2 != q2) = false := by simp
          have z4 : ((P.length : Int) != (P.length : Int)) = false := by simp
          clear hbx hBo
          go_wp2_with fail
          refine wp_region_past (by kernel_rfl) (by kernel_rfl) (Below.refl _ v2) ?_
          repeat (go_big_quiet_step ((exact Calls.past (HSZ.out _))))
          refine wpQuiet_nil ?_
          intro p
          have hW3 := btr hW2 p.h
          have hBo3 := HBO.out.below p.h
          obtain ⟨v3, hv3'⟩ : ∃ v3, p.w = v3 := ⟨_, rfl⟩
          rw [hv3'] at hW3 hBo3 ⊢
          clear hv3' q11 HSZ HBO
          go_wp2
          go_roundw
          case rel => exact ⟨j + 1, by omega, by go_num, hBo3, hW3⟩
          case measure => simp [intOf]; omega
        · obtain rfl : j = lb := by omega
          have hnj : ¬ (j : Int) < (j : Int) := by omega
          have HR1 := Lib.hid (both_row n hn (by omega) hBo)
          have HR2 := Lib.hid (fun W (hb : Below wr.heap.size wr W) => both_refrow n (by omega) (hBo.below hb))
          obtain ⟨R, hR⟩ : ∃ R, rowL P n = R := ⟨_, rfl⟩
          obtain ⟨er, her⟩ : ∃ er, rowE P n = er := ⟨_, rfl⟩
          rw [hR, her] at HR1 HR2
          clear hR her hBo
          go_wp2_with fail
          refine HR1.out.mono ?_
          rintro e v1 ⟨y, rfl, hown, hv1⟩
          obtain ⟨yo, yc, rfl, _, hym, hy⟩ := IAt.of_owns hown
          clear hown HR1
          go_wp2_with fail
          refine (HR2.out v1 hv1).mono ?_
          rintro e v2 ⟨z, rfl, hown, hv2⟩
          obtain ⟨zo, zc, rfl, hz1, hz2, hz⟩ := IAt.of_owns hown
          have hv3 := btr hv1 hv2
          have hy2 := (hy.below hv2 (Nat.le_refl _)).mono hv2.size
          have HZ := Lib.hid hz
          have HY := Lib.hid hy2
          have hrl : R.length ≤ maxLen := Nat.le_trans hz1 hz2
          clear hown HR2 hy hv1 hv2 hy2 hz
          go_wp2_with fail
          refine (awake_intern v2).mono ?_
          rintro e v4 ⟨rfl, hb4⟩
          have hv4 := btr hv3 hb4
          have hy4 := (HY.out.below hb4 (Nat.le_refl _)).mono hb4.size
          have hz4 := (HZ.out.below hb4 (Nat.le_refl _)).mono hb4.size
          have HI := Lib.hid (ints2_any yo zo R.length yc R.length zc R R rfl rfl hrl v4 hy4 hz4)
          rw [decide_eq_true (rfl : R = R)] at HI
          have zz : (er == er) = true := by simp
          clear hy4 hz4 hb4 HY HZ
          go_wp2_with fail
          refine HI.out.mono ?_
          rintro e v5 ⟨rfl, hb5⟩
          have hW5 := btr hW (btr hv4 hb5)
          go_wp2
          go_ret
          exact ⟨rfl, hW5⟩

theorem internDoes_walk (ao bo : Option Addr) (la ca lb cb : Nat) (L M : List (List Int)) (n : Int) (hn : -9223372036854775808 ≤ n ∧ n ≤ 9223372036854775807) (hla : L.length = la) (hlb : M.length = lb) (hma : la ≤ maxLen) (hmb : lb ≤ maxLen) (hRL : RngL L) (hRM : RngL M) (w : World) (hA : RsAt w ao L w.heap.size) (hB : RsAt w bo M w.heap.size) :
    Calls Try.prog 4 #[.slice ao la ca, .slice bo lb cb, .int .i64 n] w fun e w' => e = .returned (.bool true) ∧ Below w.heap.size w w' := by
  have F1 := Lib.hid (few_any ao la ca L hla hma w hA)
  have F2 := Lib.hid (fun W h => few_any bo lb cb M hlb hmb W h)
  have HBB := Lib.hid hB
  by_cases f1 : FewL L
  · by_cases f2 : FewL M
    · exact internDoes_main ao bo la ca lb cb L M n hn hla hlb hma hmb f1 f2 hRL hRM w hA hB
    · rw [(fewB_iff L).2 f1] at F1
      rw [fewB_f f2] at F2
      clear f1 f2 hla hlb hA hB
      go_enter Try.func4, Try.ntmps4
      go_wp2_with fail
      refine F1.out.mono ?_
      rintro e w1 ⟨rfl, hb1⟩
      go_wp2_with fail
      refine (F2.out w1 ((HBB.out.below hb1 (Nat.le_refl _)).mono hb1.size)).mono ?_
      rintro e w2 ⟨rfl, hb2⟩
      have hB2 := btr hb1 hb2
      go_wp2
      go_ret
      exact ⟨rfl, hB2⟩
  · rw [fewB_f f1] at F1
    clear f1 hla hlb hA hB
    go_enter Try.func4, Try.ntmps4
    go_wp2_with fail
    refine F1.out.mono ?_
    rintro e w1 ⟨rfl, hb1⟩
    go_wp2
    go_ret
    exact ⟨rfl, hb1⟩
end Go.Proofs.Ytbnnfhpphelmfaa
