/-
  What is not; what stands one behind the other, and between signs: as the landed parser reads them. Conditions: those that each names.
-/
import Derived.Test.YtbiempopfmpohaaPwGr
namespace Go.Proofs.Ytbiempopfmpohaa
open Go.RowKit

def notA : PAns Rx → PAns Rx
  | .error x => .error x
  | .ok y => .ok (.not y.1, y.2)
set_option maxRecDepth 100000 in
set_option maxHeartbeats 2000000 in
theorem pnot_any (B d : Nat) (hd : d ≤ 32) (L : List (Tk × Nat)) (hL : Row L) (hrep : ReadsAt 73 B d L (repA d (pl L))) (hnot : ∀ t p L1, L = (t, p) :: L1 → Row L1 → d < 32 → ReadsAt 57 B (d + 1) L1 (notV (d + 1) (pl L1))) : ReadsAt 57 B d L (notV d (pl L)) := by
  intro w hR
  have hlt := hR.lt
  have hA := hR.alloc (.cells zr9 27)
  have hF := Blk.new w 27 zr9
  have hB0 := Btt.ofB (B := B) (bal0 w (.cells zr9 27))
  have HS := Lib.hid (fun b W => psign_any b W)
  have h33 : bl { data := #[33] } = [33] := rfl
  cases hs : sgn [33] (pl L) with
  | true =>
    obtain ⟨t, p, L1, rfl⟩ := hL.cons
    have hk := sgn_kind hL hs
    obtain ⟨hL1, hp1⟩ := hL.tail hk
    have HV := Lib.hid (show notV d (pl ((t, p) :: L1)) = notA (if 32 ≤ d then .error (8, pl ((t, p) :: L1)) else notV (d + 1) (pl L1)) by
      rw [notV_eq, hs, if_pos rfl, hp1]
      by_cases h32 : 32 ≤ d
      · rw [if_pos h32, if_pos h32]; rfl
      · rw [if_neg h32, if_neg h32]
        show (match notV (d + 1) (pl L1) with | .error x => Except.error x | .ok y => Except.ok (Rx.not y.1, y.2)) = _
        cases notV (d + 1) (pl L1) <;> rfl)
    have HB := Lib.hid (fun W h => pdeeper_any B d hd t p L1 hk hL _ ent_not (notV (d + 1) (pl L1)) W h (fun h32 => hnot t p L1 rfl hL1 h32))
    have HP := Lib.hid (fun W h => pat_row B d ((t, p) :: L1) { data := #[33] } W h hL)
    rw [h33, hs] at HP
    clear hR hnot hrep
    rw [HV.out]
    generalize (if 32 ≤ d then Except.error (8, pl ((t, p) :: L1)) else notV (d + 1) (pl L1)) = ans at *
    go_enter Try.func57, Try.ntmps57
    go_wp2_with fail
    refine (HS.out _ _).mono ?_
    rintro e w1 ⟨rfl, hb1⟩
    have hA1 := hA.below hb1 hA.lt
    have hF1 := hF.below hb1 hF.lt
    have hB1 := hB0.on hb1
    go_wp2_with fail
    refine (HP.out _ hA1).mono ?_
    rintro e w2 ⟨rfl, hb2⟩
    have hA2 := hA1.below hb2 hA1.lt
    have hF2 := hF1.below hb2 hF1.lt
    have hB2 := hB1.on hb2
    clear hA hF hB0 hb1 hA1 hF1 hB1 hb2
    go_wp2_with fail
    cases ans with
    | error x =>
      refine (HB.out _ hA2).mono ?_
      rintro e w3 ⟨hb3, L3, hs3, hL3, hp3, rfl⟩
      exact ⟨rfl, hB2.next hb3, L3, hs3, hL3, hp3, rfl⟩
    | ok y =>
      obtain ⟨a, R⟩ := y
      refine (HB.out _ hA2).mono ?_
      rintro e w3 ⟨⟨ao, cap, rfl, hU⟩, hb3, L3, hs3, hL3, hp3, hR3⟩
      have hltF := hF2.lt
      have hF3 := hb3.at hF2 (by omega)
      have hB3 := hB2.next hb3
      have hltF3 := hF3.lt
      have hG := Blk.new w3 27 (rxCells a ao cap)
      have hF8 := hF3.alloc (.cells (rxCells a ao cap) 27)
      have hU8 := (hU.mono (G := fun k => w.heap.size < k) fun g hg _ => by omega).on (bal0 w3 (.cells (rxCells a ao cap) 27))
      have hR8 := hR3.alloc (.cells (rxCells a ao cap) 27)
      have hB8 := hB3.alloc (.cells (rxCells a ao cap) 27)
      have hO := ReU.one (F := fun k => w.heap.size < k) 7 a ao cap 0 0 hG (by omega) hU8
      have HC := Lib.hid (mk_cells 7 [a] 0 0 (some ⟨w3.heap.size, 0, none⟩) 1 1 rfl)
      go_wp2_with (first | (refine wp_put rfl _ _ _ rfl w.heap.size _ (rxCells (.mk 7 [] noSet [a] 0 0) (some ⟨w3.heap.size, 0, none⟩) 1) rfl (by rw [HC.out]; rfl) hF8 (by rw [size_re]; rfl) rfl (by simp [Value.oneCell']) ?_; intro w9 hF9 hb9) | fail)
      refine ret_blk _ _ _ _ _ rfl rfl rfl hF9 Try.underlying27 rfl (by rw [size_re]; rfl) ?_
      exact ⟨⟨_, 1, rfl, hO.to fun g hg hl => ⟨hb9.block g hl (by omega), by omega⟩⟩, hB8.own hb9 (Nat.le_refl _), L3, hs3, hL3, hp3, hR8.own hb9 hlt⟩
  | false =>
    have HV := Lib.hid (show notV d (pl L) = repA d (pl L) by rw [notV_eq, hs, if_neg (by decide)]; rfl)
    have HB := Lib.hid hrep
    have HP := Lib.hid (fun W h => pat_row B d L { data := #[33] } W h hL)
    rw [h33, hs] at HP
    clear hR hnot hrep
    rw [HV.out]
    generalize repA d (pl L) = ans at *
    go_enter Try.func57, Try.ntmps57
    go_wp2_with fail
    refine (HS.out _ _).mono ?_
    rintro e w1 ⟨rfl, hb1⟩
    have hA1 := hA.below hb1 hA.lt
    have hF1 := hF.below hb1 hF.lt
    have hB1 := hB0.on hb1
    go_wp2_with fail
    refine (HP.out _ hA1).mono ?_
    rintro e w2 ⟨rfl, hb2⟩
    have hA2 := hA1.below hb2 hA1.lt
    have hF2 := hF1.below hb2 hF1.lt
    have hB2 := hB1.on hb2
    clear hA hF hB0 hb1 hA1 hF1 hB1 hb2
    go_wp2_with fail
    cases ans with
    | error x =>
      refine (HB.out _ hA2).mono ?_
      rintro e w3 ⟨hb3, L3, hs3, hL3, hp3, rfl⟩
      exact ⟨rfl, hB2.next hb3, L3, hs3, hL3, hp3, rfl⟩
    | ok y =>
      refine (HB.out _ hA2).mono ?_
      rintro e w3 ⟨⟨ao, cap, rfl, hU⟩, hb3, L3, hs3, hL3, hp3, hR3⟩
      have hF3 := hb3.at hF2 (by omega)
      have hB3 := hB2.next hb3
      have hltF := hF2.lt
      go_wp2_with (first | (refine wp_put rfl _ _ _ rfl w.heap.size _ (rxCells y.1 ao cap) rfl rfl hF3 (by rw [size_re]; rfl) rfl (by simp [Value.oneCell']) ?_; intro w9 hF9 hb9) | fail)
      refine ret_blk _ _ _ _ _ rfl rfl rfl hF9 Try.underlying27 rfl (by rw [size_re]; rfl) ?_
      exact ⟨⟨ao, cap, rfl, hU.to fun g hg hl => ⟨hb9.block g hl (by omega), by omega⟩⟩, hB3.own hb9 (Nat.le_refl _), L3, hs3, hL3, hp3, hR3.own hb9 hlt⟩

/-- Does an atom without brackets come next? -/
def plB : List Tk → Bool
  | [] => false
  | t :: _ => (atomT t).isSome
theorem beg_or (T : List Tk) : begB T = (sgn [33] T || (sgn [40] T || plB T)) := by
  cases T with
  | nil => rfl
  | cons t T =>
    show ((atomT t).isSome || (t.kind == 4 && (t.text == [40] || t.text == [33]))) = ((t.kind == 4 && t.text == [33]) || ((t.kind == 4 && t.text == [40]) || (atomT t).isSome))
    cases (atomT t).isSome <;> cases t.kind == 4 <;> cases t.text == [40] <;> cases t.text == [33] <;> rfl
theorem patplain_row (B d : Nat) (L : List (Tk × Nat)) (hL : Row L) (w : World) (hR : Rd w B L d) :
    Calls Try.prog 59 #[.pointer (some ⟨B, 0, none⟩)] w fun e w' => e = .returned (.bool (plB (pl L))) ∧ Below w.heap.size w w' := by
  obtain ⟨t, p, L1, rfl⟩ := hL.cons
  have h := patplain_any B d t p L1 w hR
  have e : plB (pl ((t, p) :: L1)) = (atomT t).isSome := by
    rcases hL.parts with ⟨q, e⟩ | ⟨u, q, L', e, _, _, e2⟩
    · cases e; rfl
    · cases e; rw [e2]; rfl
  rw [e]
  exact h
theorem mSig_some (s : List UInt8) (T : List Tk) : (mSig s T).isSome = sgn s T ∧ (mSig s T).getD T = if sgn s T = true then T.tail else T := by
  unfold mSig
  cases sgn s T <;> simp
theorem mBeg_some (T : List Tk) : (mBeg T).isSome = begB T ∧ (mBeg T).getD T = T := by
  unfold mBeg
  cases begB T <;> simp

set_option maxRecDepth 100000 in
set_option maxHeartbeats 2000000 in
theorem pre1_any (B d vb : Nat) (L : List (Tk × Nat)) (w : World) (hL : Row L) (hR : Rd w B L d) (hV : Blk w vb 51 #[.pointer (some ⟨B, 0, none⟩)]) :
    Calls Try.prog 28 #[.pointer (some ⟨vb, 0, none⟩)] w fun e w' => e = .returned (.bool (mSig [124] (pl L)).isSome) ∧ Left B d L w w' ((mSig [124] (pl L)).getD (pl L)) := by
  rw [(mSig_some _ _).1, (mSig_some _ _).2]
  have HS := Lib.hid (fun b W => psign_any b W)
  have HT := Lib.hid (fun W (h : Rd W B L d) => ptakes_row B d L { data := #[124] } W h hL)
  rw [show bl { data := #[124] } = [124] from rfl] at HT
  have r0 := hV.cell 0
  simp only [List.getElem?_toArray, List.getElem?_cons_zero] at r0
  have hlt := hR.lt
  have hvlt := hV.lt
  generalize (if sgn [124] (pl L) = true then (pl L).tail else pl L) = R at *
  generalize sgn [124] (pl L) = b at *
  go_enter Try.func28, Try.ntmps28
  go_wp2_with fail
  go_region_with (first
    | (go_at_call 30; refine (HS.out _ _).mono ?_; rintro e w2 ⟨rfl, hb2⟩; have hB2 := (Below.refl w.heap.size w).drew.trans hb2; have hR2 := hR.below hB2 hlt; have r2 := (hB2.cell (p := ⟨vb, 0, none⟩) hvlt).trans r0)
    | (go_at_call 29; refine (HT.out _ hR2).mono ?_; rintro e w3 ⟨rfl, hl3⟩))
  all_goals
    have hl := hl3.far (Btt.ofB hB2) (List.suffix_refl _)
    go_wp2
    go_ret
    exact ⟨rfl, hl⟩
set_option maxRecDepth 100000 in
set_option maxHeartbeats 2000000 in
theorem pand1_any (B d vb : Nat) (L : List (Tk × Nat)) (w : World) (hL : Row L) (hR : Rd w B L d) (hV : Blk w vb 51 #[.pointer (some ⟨B, 0, none⟩)]) :
    Calls Try.prog 47 #[.pointer (some ⟨vb, 0, none⟩)] w fun e w' => e = .returned (.bool (mSig [38] (pl L)).isSome) ∧ Left B d L w w' ((mSig [38] (pl L)).getD (pl L)) := by
  rw [(mSig_some _ _).1, (mSig_some _ _).2]
  have HS := Lib.hid (fun b W => psign_any b W)
  have HT := Lib.hid (fun W (h : Rd W B L d) => ptakes_row B d L { data := #[38] } W h hL)
  rw [show bl { data := #[38] } = [38] from rfl] at HT
  have r0 := hV.cell 0
  simp only [List.getElem?_toArray, List.getElem?_cons_zero] at r0
  have hlt := hR.lt
  have hvlt := hV.lt
  generalize (if sgn [38] (pl L) = true then (pl L).tail else pl L) = R at *
  generalize sgn [38] (pl L) = b at *
  go_enter Try.func47, Try.ntmps47
  go_wp2_with fail
  go_region_with (first
    | (go_at_call 30; refine (HS.out _ _).mono ?_; rintro e w2 ⟨rfl, hb2⟩; have hB2 := (Below.refl w.heap.size w).drew.trans hb2; have hR2 := hR.below hB2 hlt; have r2 := (hB2.cell (p := ⟨vb, 0, none⟩) hvlt).trans r0)
    | (go_at_call 29; refine (HT.out _ hR2).mono ?_; rintro e w3 ⟨rfl, hl3⟩))
  all_goals
    have hl := hl3.far (Btt.ofB hB2) (List.suffix_refl _)
    go_wp2
    go_ret
    exact ⟨rfl, hl⟩
set_option maxRecDepth 100000 in
set_option maxHeartbeats 2000000 in
theorem pcat1_any (B d vb : Nat) (L : List (Tk × Nat)) (w : World) (hL : Row L) (hR : Rd w B L d) (hV : Blk w vb 51 #[.pointer (some ⟨B, 0, none⟩)]) :
    Calls Try.prog 58 #[.pointer (some ⟨vb, 0, none⟩)] w fun e w' => e = .returned (.bool (mBeg (pl L)).isSome) ∧ Left B d L w w' ((mBeg (pl L)).getD (pl L)) := by
  rw [(mBeg_some _).1, (mBeg_some _).2, beg_or]
  have hlt := hR.lt
  have hvlt := hV.lt
  have hq : ∀ q : Past w, Rd q.w B L d := fun q => hR.below q.h hlt
  have q0 : ∀ q : Past w, q.w.cell? ⟨vb, 0, none⟩ = some (.pointer (some ⟨B, 0, none⟩)) := fun q => (hV.below q.h hvlt).cell 0
  have HS1 := Lib.hid (fun W => psign_any { data := #[33] } W)
  have HS2 := Lib.hid (fun W => psign_any { data := #[40] } W)
  have HT1 := Lib.hid (fun W (h : Rd W B L d) => pat_row B d L { data := #[33] } W h hL)
  have HT2 := Lib.hid (fun W (h : Rd W B L d) => pat_row B d L { data := #[40] } W h hL)
  have HT3 := Lib.hid (fun W (h : Rd W B L d) => patplain_row B d L hL W h)
  rw [show bl { data := #[33] } = [33] from rfl] at HT1
  rw [show bl { data := #[40] } = [40] from rfl] at HT2
  have HE := Lib.hid (show ∀ W, Below w.heap.size w W → Left B d L w W (pl L) from fun W hb => ⟨Btt.ofB hb, L, List.suffix_refl _, hL, rfl, hR.below hb hlt⟩)
  generalize sgn [33] (pl L) = b1 at *
  generalize sgn [40] (pl L) = b2 at *
  generalize plB (pl L) = b3 at *
  clear hR hV
  cases b1 <;> cases b2 <;>
  · go_enter Try.func58, Try.ntmps58
    go_wp2_with fail
    refine wp_region_past (w0 := w) (by kernel_rfl) (by kernel_rfl) (Below.refl _ _) ?_
    repeat (go_big_quiet_step (first | with_reducible exact Calls.past (HS1.out _) | with_reducible exact Calls.past (HS2.out _) | with_reducible exact Calls.past (HT1.out _ (hq _)) | with_reducible exact Calls.past (HT2.out _ (hq _)) | with_reducible exact Calls.past (HT3.out _ (hq _))))
    refine wpQuiet_nil ?_
    intro q
    have hl := HE.out _ q.h
    go_wp2
    go_ret
    exact ⟨rfl, hl⟩
end Go.Proofs.Ytbiempopfmpohaa
