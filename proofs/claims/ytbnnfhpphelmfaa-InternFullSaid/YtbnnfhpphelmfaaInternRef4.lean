/-
  Layer 5's reference as a table, continued: the walk of Put. Conditions: sizes that each names.
-/
import Derived.Test.YtbnnfhpphelmfaaInternRef3
import Derived.Maps.AppendAt
namespace Go.Proofs.Ytbnnfhpphelmfaa
open Go.RowKit

theorem info_row : (Try.prog.info? 22).map (fun i => (i.zero, i.size, i.bytes)) = some (some (.slice none 0 0), 1, 24) := by kernel_rfl

set_option maxRecDepth 100000 in
set_option maxHeartbeats 2000000 in
theorem refput_any (a : Nat) (L : List (List Int)) (F : Nat → Prop) (ao : Option Addr) (len cap : Nat) (xs : List Int) (hl : xs.length = len) (hm : len ≤ 1000000) (hm2 : L.length ≤ 4096) (w : World) (hT : RT w a L F) (hA : IAt w ao xs w.heap.size) :
    Calls Try.prog 19 #[.pointer (some ⟨a, 0, none⟩), .slice ao len cap] w fun e w' => e = .returned (.tuple #[.int .i64 (putN L (srt xs)), .bool (putB L (srt xs)), .int .i64 (putE L (srt xs))]) ∧ ∃ F', RT w' a (putL L (srt xs)) F' ∧ But F w w' ∧ (∀ k, F' k → F k ∨ w.heap.size ≤ k) := by
  have HF := Lib.hid (reffind_any a L F ao len cap xs hl hm (by omega) w hT hA)
  have HS := Lib.hid (fun w' (hb : Below w.heap.size w w') => refsort_own ao len cap xs hl hm w' ((hA.below hb (Nat.le_refl _)).mono hb.size))
  have hsl := srt_length xs
  rw [hl] at hsl
  have HTT := Lib.hid hT
  clear hl hA hT
  generalize srt xs = s at *
  obtain ⟨i0, hi, hz0, hz1, hz2⟩ := info_parts info_row
  cases hp : posTo s L with
  | some n =>
    have e1 : fnd L s = ((n : Int), true) := by unfold fnd; rw [hp]
    have HN := Lib.hid (show putN L s = (n : Int) by unfold putN; rw [hp])
    have HBB := Lib.hid (show putB L s = false by unfold putB; rw [hp])
    have HE := Lib.hid (show putE L s = 0 by unfold putE; rw [hp])
    have HPL := Lib.hid (show putL L s = L by unfold putL; rw [hp])
    rw [e1] at HF
    clear hp e1
    go_enter Try.func19, Try.ntmps19
    go_wp2_with fail
    refine HF.out.mono ?_
    rintro e w1 ⟨rfl, hb1⟩
    have HX := Lib.hid hb1
    clear hb1
    go_wp2
    go_ret3
    refine ⟨by rw [HN.out, HBB.out, HE.out]; rfl, F, by rw [HPL.out]; exact HTT.out.below HX.out, But.of_below HX.out, fun k hk => .inl hk⟩
  | none =>
    have e1 : fnd L s = (0, false) := by unfold fnd; rw [hp]
    rw [e1] at HF
    obtain ⟨v, rows, h1, h2, h3, h4⟩ := HTT.out.box
    obtain ⟨vo, vc, rfl, hvc⟩ := owns_form h2
    have HFA := Lib.hid HTT.out.fa
    have HLT := Lib.hid HTT.out.lt
    by_cases hfull : 4096 ≤ L.length
    · have HN := Lib.hid (show putN L s = 0 by unfold putN; rw [hp]; exact if_pos hfull)
      have HBB := Lib.hid (show putB L s = false by unfold putB; rw [hp]; exact if_pos hfull)
      have HE := Lib.hid (show putE L s = 2 by unfold putE; rw [hp]; exact if_pos hfull)
      have HPL := Lib.hid (show putL L s = L by unfold putL; rw [hp]; exact if_pos hfull)
      have hfi : (4096 : Int) ≤ (L.length : Int) := by omega
      clear hp e1 h2 h3 h4
      go_enter Try.func19, Try.ntmps19
      go_wp2_with fail
      refine HF.out.mono ?_
      rintro e w1 ⟨rfl, hb1⟩
      have HX := Lib.hid hb1
      have c1 := (h1.below hb1 h1.lt).cell 0
      simp at c1
      clear hb1
      go_wp2
      go_ret3
      refine ⟨by rw [HN.out, HBB.out, HE.out]; rfl, F, by rw [HPL.out]; exact HTT.out.below HX.out, But.of_below HX.out, fun k hk => .inl hk⟩
    · have HN := Lib.hid (show putN L s = L.length by unfold putN; rw [hp]; exact if_neg hfull)
      have HBB := Lib.hid (show putB L s = true by unfold putB; rw [hp]; exact if_neg hfull)
      have HE := Lib.hid (show putE L s = 0 by unfold putE; rw [hp]; exact if_neg hfull)
      have HPL := Lib.hid (show putL L s = L ++ [s] by unfold putL; rw [hp]; exact if_neg hfull)
      have hfi : ¬ (4096 : Int) ≤ (L.length : Int) := by omega
      clear hp e1
      go_enter Try.func19, Try.ntmps19
      go_wp2_with fail
      refine HF.out.mono ?_
      rintro e w1 ⟨rfl, hb1⟩
      have c1 := (h1.below hb1 h1.lt).cell 0
      simp at c1
      have H4 := Lib.hid h4
      have H3 := Lib.hid h3
      have ha1 : a < w1.heap.size := Nat.lt_of_lt_of_le h1.lt hb1.size
      have hown1 := owns_belowN h2 hb1
      clear h4 h3
      go_wp2_with fail
      have hB1 : Below w.heap.size w w1.drew := hb1.drew
      have hownD : w1.drew.ownsRow 0 22 1 (.slice vo L.length vc) L.length rows := hown1
      have hblkD : Blk w1.drew a 33 #[.slice vo L.length vc] := h1.below hB1 h1.lt
      have hva : (Value.slice vo L.length vc).ownBlock ≠ some a := fun e => (H3.out a e).2 rfl
      go_region_law (first
        | (refine step_append_at rfl _ _ 27 rfl 0 22 i0 (.slice none 0 0) 1 24 Try.underlying27 hi hz0 hz1 hz2 rfl (by decide) _ _ _ rfl (hown2.alloc (.cells #[.slice so s.length sc] 22)) ⟨w2.heap.size, 0, none⟩ 1 1 [.slice so s.length sc] rfl rfl (cell_one_new _ _ _) (by simp [Value.oneCell']) (by unfold maxLen; omega) (by omega) (Nat.zero_le _) ?_; intro v' w3 hown3 hgrow hat3; obtain ⟨vo', vc', rfl, hvc'⟩ := owns_form hown3; have hblk3 : Blk w3 a 33 #[.slice vo L.length vc] := (hgrow.block a (by rw [World.size_alloc]; exact Nat.lt_succ_of_lt ha2) fun e => hva e.symm).trans (hblk2.alloc _); have c3 := hblk3.cell 0; have f3 := hblk3.frozen 0; simp at c3)
        | (go_simp; go_at_call 13; refine (HS.out _ hB1).mono ?_; rintro e w2 ⟨vs, rfl, hownS, hb2⟩; obtain ⟨so, sc, rfl, hsc, _, hrow⟩ := RowIn.of_owns hownS; have hown2 := owns_belowN hownD hb2; have hblk2 := hblkD.below hb2 ha1; have ha2 := hblk2.lt; have c2 := hblk2.cell 0; simp at c2; have c2a : ∀ o, (w2.alloc o).cell? ⟨a, 0, none⟩ = some (.slice vo L.length vc) := fun o => (World.cell?_of_block (a := ⟨a, 0, none⟩) (Below.heap_alloc w2 o a ha2)).trans c2))
      all_goals
        have HG := Lib.hid (RT.grow (hblkD) hownD H3.out (fun i hi => by
          obtain ⟨so, sc, e1, e2, e3, e4⟩ := H4.out i hi
          exact ⟨so, sc, e1, e2, e3, e4.but (But.of_below (F := fun _ => False) hB1) fun _ _ f => f⟩) HFA.out (fun k hk => Nat.lt_of_lt_of_le (HLT.out k hk) hB1.size) hb2 _ hgrow hown3 hat3 hrow hsc (by omega))
        have c4 : (w3.setCell ⟨a, 0, none⟩ (.slice vo' (L.length + 1) vc')).cell? ⟨a, 0, none⟩ = some (.slice vo' (L.length + 1) vc') := by
          have := (hblk3.set 0 (.slice vo' (L.length + 1) vc')).cell 0
          simpa using this
        clear hown3 hgrow hat3 hblk3 c3 f3 hown2 hblk2 c2 c2a hownS hrow
        generalize w3.setCell ⟨a, 0, none⟩ (.slice vo' (L.length + 1) vc') = w4 at *
        have hwl : IntKind.i64.wrap (((L.length + 1 : Nat) : Int) - 1) = (L.length : Int) := by rw [show ((L.length + 1 : Nat) : Int) - 1 = (L.length : Int) by omega]; exact IntWalk.i64_in _ (by omega)
        go_wp2
        go_ret3
        refine ⟨by rw [HN.out, HBB.out, HE.out]; rfl, _, by rw [HPL.out]; exact HG.out.1, (But.of_below (F := F) hB1).trans HG.out.2 fun k hk => .inl hk, fun k hk => ?_⟩
        rcases hk with hk | hk
        · exact .inl hk
        · exact .inr (Nat.le_trans hB1.size hk.1)
end Go.Proofs.Ytbnnfhpphelmfaa
