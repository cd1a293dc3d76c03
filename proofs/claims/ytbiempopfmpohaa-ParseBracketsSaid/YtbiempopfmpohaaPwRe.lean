/-
  An expression, as the landed parser reads it, from any row of tokens. Conditions: at most 70000 tokens.
-/
import Derived.Test.YtbiempopfmpohaaPwCat
namespace Go.Proofs.Ytbiempopfmpohaa
open Go.RowKit

theorem ent_cat (v : Value) (W : World) : (callFunc 46 #[v]).run Try.prog W = .ok (.enter 46 #[v]) W := by kernel_rfl
theorem ent_and (v : Value) (W : World) : (callFunc 27 #[v]).run Try.prog W = .ok (.enter 27 #[v]) W := by kernel_rfl
theorem ent_cat1 (v : Value) (W : World) : (callFunc 58 #[v]).run Try.prog W = .ok (.enter 58 #[v]) W := by kernel_rfl
theorem ent_and1 (v : Value) (W : World) : (callFunc 47 #[v]).run Try.prog W = .ok (.enter 47 #[v]) W := by kernel_rfl
theorem ent_re1 (v : Value) (W : World) : (callFunc 28 #[v]).run Try.prog W = .ok (.enter 28 #[v]) W := by kernel_rfl
theorem mkfunc (fn : Fn) (first cap : Array Value) (w : World) : (Instr.makeFunc fn first cap).run Try.prog w = .ok (.func fn first cap) w := rfl
set_option maxRecDepth 100000 in
set_option maxHeartbeats 2000000 in
theorem pcat_any (B d : Nat) (L : List (Tk × Nat)) (hL : Row L) (hLn : L.length ≤ 70000) (hin : ∀ L', L' <:+ L → Row L' → ReadsAt 57 B d L' (notV d (pl L'))) : ReadsAt 46 B d L (catV d (pl L)) := by
  intro w hR
  have hlt := hR.lt
  have hmf := mkfunc
  have hA := (hR.alloc (.cells #[.pointer (some ⟨B, 0, none⟩)] 51)).alloc (.cells zr9 27)
  have hV := (Blk.new w 51 #[.pointer (some ⟨B, 0, none⟩)]).alloc (.cells zr9 27)
  have hF := Blk.new (w.alloc (.cells #[.pointer (some ⟨B, 0, none⟩)] 51)) 27 zr9
  rw [World.size_alloc] at hF
  have hB0 := Btt.ofB (B := B) (bal (bal0 w (.cells #[.pointer (some ⟨B, 0, none⟩)] 51)) (.cells zr9 27))
  obtain ⟨w1, hw1⟩ : ∃ w1, (w.alloc (.cells #[.pointer (some ⟨B, 0, none⟩)] 51)).alloc (.cells zr9 27) = w1 := ⟨_, rfl⟩
  rw [hw1] at hA hV hF hB0
  have r0 := hV.cell 0
  simp only [List.getElem?_toArray, List.getElem?_cons_zero] at r0
  have hltF := hF.lt
  have HP := Lib.hid (pparts_any B d L hL hLn (notV d) mBeg (PR .catL d) (cat_parts d) (fun T y h => togA_len h) mBeg_len _ _ w.heap.size ent_not ent_cat1 w1 hA hV (by omega) (fun L' W hs hr h => hin L' hs hr W h) (fun L' W _ hr h hv => pcat1_any B d w.heap.size L' W hr h hv))
  have HJ := Lib.hid (fun (l : List Rx) hl hm g cap hc hcm (W : World) hg hr => pjoin_any 4 l hl hm g cap hc hcm (fun k => w.heap.size + 1 < k) W hg hr)
  have HV := Lib.hid (show catV d (pl L) = togA 4 (PR .catL d (pl L)) from rfl)
  clear hin hR
  rw [HV.out]
  generalize PR .catL d (pl L) = ans at *
  cases ans with
  | error x =>
    go_enter Try.func46, Try.ntmps46
    go_wp2_with fail
    refine HP.out.mono ?_
    rintro e w2 ⟨hb2, L2, hs2, hL2, hp2, rfl⟩
    exact ⟨rfl, hB0.next hb2, L2, hs2, hL2, hp2, rfl⟩
  | ok y =>
    obtain ⟨l, R⟩ := y
    go_enter Try.func46, Try.ntmps46
    go_wp2_with fail
    refine HP.out.mono ?_
    rintro e w2 ⟨⟨g, cap, rfl, h1, h2, h3, h4, h5, h6⟩, hb2, L2, hs2, hL2, hp2, hR2⟩
    have hF2 := hb2.at hF (by omega)
    have hB2 := hB0.next hb2
    have h6' : RowU w2 (fun k => w.heap.size + 1 < k) g 0 l := by
      rw [RowU_iff] at h6 ⊢
      intro i hi
      obtain ⟨ao, c, q1, q2⟩ := h6 i hi
      exact ⟨ao, c, q1, q2.mono fun g hg _ => by omega⟩
    have HJ2 := Lib.hid (HJ.out l h1 h2 g cap h3 h4 w2 (by omega) h6')
    clear h6 h6' hF hb2 hB0 hA hV r0 HJ
    go_wp2_with fail
    refine HJ2.out.mono ?_
    rintro e w3 ⟨ao, c, rfl, hU, hb3⟩
    have hF3 := hF2.below hb3 hF2.lt
    have hR3 := hR2.below hb3 hR2.lt
    have hB3 := hB2.on hb3
    go_wp2_with (first | (refine wp_put rfl _ _ _ rfl (w.heap.size + 1) _ (rxCells (tog 4 l) ao c) rfl rfl hF3 (by rw [size_re]; rfl) rfl (by simp [Value.oneCell']) ?_; intro w9 hF9 hb9) | fail)
    refine ret_blk _ _ _ _ _ rfl rfl rfl hF9 Try.underlying27 rfl (by rw [size_re]; rfl) ?_
    exact ⟨⟨ao, c, rfl, hU.to fun g hg hl => ⟨hb9.block g hl (by omega), by omega⟩⟩, hB3.own hb9 (by omega), L2, hs2, hL2, hp2, hR3.own hb9 (by omega)⟩
set_option maxRecDepth 100000 in
set_option maxHeartbeats 2000000 in
theorem pand_any (B d : Nat) (L : List (Tk × Nat)) (hL : Row L) (hLn : L.length ≤ 70000) (hin : ∀ L', L' <:+ L → Row L' → ReadsAt 46 B d L' (catV d (pl L'))) : ReadsAt 27 B d L (andV d (pl L)) := by
  intro w hR
  have hlt := hR.lt
  have hmf := mkfunc
  have hA := (hR.alloc (.cells #[.pointer (some ⟨B, 0, none⟩)] 51)).alloc (.cells zr9 27)
  have hV := (Blk.new w 51 #[.pointer (some ⟨B, 0, none⟩)]).alloc (.cells zr9 27)
  have hF := Blk.new (w.alloc (.cells #[.pointer (some ⟨B, 0, none⟩)] 51)) 27 zr9
  rw [World.size_alloc] at hF
  have hB0 := Btt.ofB (B := B) (bal (bal0 w (.cells #[.pointer (some ⟨B, 0, none⟩)] 51)) (.cells zr9 27))
  obtain ⟨w1, hw1⟩ : ∃ w1, (w.alloc (.cells #[.pointer (some ⟨B, 0, none⟩)] 51)).alloc (.cells zr9 27) = w1 := ⟨_, rfl⟩
  rw [hw1] at hA hV hF hB0
  have r0 := hV.cell 0
  simp only [List.getElem?_toArray, List.getElem?_cons_zero] at r0
  have hltF := hF.lt
  have HP := Lib.hid (pparts_any B d L hL hLn (catV d) (mSig [38]) (PR .andL d) (and_parts d) (fun T y h => togA_len h) mSig_len _ _ w.heap.size ent_cat ent_and1 w1 hA hV (by omega) (fun L' W hs hr h => hin L' hs hr W h) (fun L' W _ hr h hv => pand1_any B d w.heap.size L' W hr h hv))
  have HJ := Lib.hid (fun (l : List Rx) hl hm g cap hc hcm (W : World) hg hr => pjoin_any 6 l hl hm g cap hc hcm (fun k => w.heap.size + 1 < k) W hg hr)
  have HV := Lib.hid (show andV d (pl L) = togA 6 (PR .andL d (pl L)) from rfl)
  clear hin hR
  rw [HV.out]
  generalize PR .andL d (pl L) = ans at *
  cases ans with
  | error x =>
    go_enter Try.func27, Try.ntmps27
    go_wp2_with fail
    refine HP.out.mono ?_
    rintro e w2 ⟨hb2, L2, hs2, hL2, hp2, rfl⟩
    exact ⟨rfl, hB0.next hb2, L2, hs2, hL2, hp2, rfl⟩
  | ok y =>
    obtain ⟨l, R⟩ := y
    go_enter Try.func27, Try.ntmps27
    go_wp2_with fail
    refine HP.out.mono ?_
    rintro e w2 ⟨⟨g, cap, rfl, h1, h2, h3, h4, h5, h6⟩, hb2, L2, hs2, hL2, hp2, hR2⟩
    have hF2 := hb2.at hF (by omega)
    have hB2 := hB0.next hb2
    have h6' : RowU w2 (fun k => w.heap.size + 1 < k) g 0 l := by
      rw [RowU_iff] at h6 ⊢
      intro i hi
      obtain ⟨ao, c, q1, q2⟩ := h6 i hi
      exact ⟨ao, c, q1, q2.mono fun g hg _ => by omega⟩
    have HJ2 := Lib.hid (HJ.out l h1 h2 g cap h3 h4 w2 (by omega) h6')
    clear h6 h6' hF hb2 hB0 hA hV r0 HJ
    go_wp2_with fail
    refine HJ2.out.mono ?_
    rintro e w3 ⟨ao, c, rfl, hU, hb3⟩
    have hF3 := hF2.below hb3 hF2.lt
    have hR3 := hR2.below hb3 hR2.lt
    have hB3 := hB2.on hb3
    go_wp2_with (first | (refine wp_put rfl _ _ _ rfl (w.heap.size + 1) _ (rxCells (tog 6 l) ao c) rfl rfl hF3 (by rw [size_re]; rfl) rfl (by simp [Value.oneCell']) ?_; intro w9 hF9 hb9) | fail)
    refine ret_blk _ _ _ _ _ rfl rfl rfl hF9 Try.underlying27 rfl (by rw [size_re]; rfl) ?_
    exact ⟨⟨ao, c, rfl, hU.to fun g hg hl => ⟨hb9.block g hl (by omega), by omega⟩⟩, hB3.own hb9 (by omega), L2, hs2, hL2, hp2, hR3.own hb9 (by omega)⟩
set_option maxRecDepth 100000 in
set_option maxHeartbeats 2000000 in
theorem pre_any (B d : Nat) (L : List (Tk × Nat)) (hL : Row L) (hLn : L.length ≤ 70000) (hin : ∀ L', L' <:+ L → Row L' → ReadsAt 27 B d L' (andV d (pl L'))) : ReadsAt 13 B d L (reV d (pl L)) := by
  intro w hR
  have hlt := hR.lt
  have hmf := mkfunc
  have hA := (hR.alloc (.cells #[.pointer (some ⟨B, 0, none⟩)] 51)).alloc (.cells zr9 27)
  have hV := (Blk.new w 51 #[.pointer (some ⟨B, 0, none⟩)]).alloc (.cells zr9 27)
  have hF := Blk.new (w.alloc (.cells #[.pointer (some ⟨B, 0, none⟩)] 51)) 27 zr9
  rw [World.size_alloc] at hF
  have hB0 := Btt.ofB (B := B) (bal (bal0 w (.cells #[.pointer (some ⟨B, 0, none⟩)] 51)) (.cells zr9 27))
  obtain ⟨w1, hw1⟩ : ∃ w1, (w.alloc (.cells #[.pointer (some ⟨B, 0, none⟩)] 51)).alloc (.cells zr9 27) = w1 := ⟨_, rfl⟩
  rw [hw1] at hA hV hF hB0
  have r0 := hV.cell 0
  simp only [List.getElem?_toArray, List.getElem?_cons_zero] at r0
  have hltF := hF.lt
  have HP := Lib.hid (pparts_any B d L hL hLn (andV d) (mSig [124]) (PR .reL d) (re_parts d) (fun T y h => togA_len h) mSig_len _ _ w.heap.size ent_and ent_re1 w1 hA hV (by omega) (fun L' W hs hr h => hin L' hs hr W h) (fun L' W _ hr h hv => pre1_any B d w.heap.size L' W hr h hv))
  have HJ := Lib.hid (fun (l : List Rx) hl hm g cap hc hcm (W : World) hg hr => pjoin_any 5 l hl hm g cap hc hcm (fun k => w.heap.size + 1 < k) W hg hr)
  have HV := Lib.hid (show reV d (pl L) = togA 5 (PR .reL d (pl L)) from rfl)
  clear hin hR
  rw [HV.out]
  generalize PR .reL d (pl L) = ans at *
  cases ans with
  | error x =>
    go_enter Try.func13, Try.ntmps13
    go_wp2_with fail
    refine HP.out.mono ?_
    rintro e w2 ⟨hb2, L2, hs2, hL2, hp2, rfl⟩
    exact ⟨rfl, hB0.next hb2, L2, hs2, hL2, hp2, rfl⟩
  | ok y =>
    obtain ⟨l, R⟩ := y
    go_enter Try.func13, Try.ntmps13
    go_wp2_with fail
    refine HP.out.mono ?_
    rintro e w2 ⟨⟨g, cap, rfl, h1, h2, h3, h4, h5, h6⟩, hb2, L2, hs2, hL2, hp2, hR2⟩
    have hF2 := hb2.at hF (by omega)
    have hB2 := hB0.next hb2
    have h6' : RowU w2 (fun k => w.heap.size + 1 < k) g 0 l := by
      rw [RowU_iff] at h6 ⊢
      intro i hi
      obtain ⟨ao, c, q1, q2⟩ := h6 i hi
      exact ⟨ao, c, q1, q2.mono fun g hg _ => by omega⟩
    have HJ2 := Lib.hid (HJ.out l h1 h2 g cap h3 h4 w2 (by omega) h6')
    clear h6 h6' hF hb2 hB0 hA hV r0 HJ
    go_wp2_with fail
    refine HJ2.out.mono ?_
    rintro e w3 ⟨ao, c, rfl, hU, hb3⟩
    have hF3 := hF2.below hb3 hF2.lt
    have hR3 := hR2.below hb3 hR2.lt
    have hB3 := hB2.on hb3
    go_wp2_with (first | (refine wp_put rfl _ _ _ rfl (w.heap.size + 1) _ (rxCells (tog 5 l) ao c) rfl rfl hF3 (by rw [size_re]; rfl) rfl (by simp [Value.oneCell']) ?_; intro w9 hF9 hb9) | fail)
    refine ret_blk _ _ _ _ _ rfl rfl rfl hF9 Try.underlying27 rfl (by rw [size_re]; rfl) ?_
    exact ⟨⟨ao, c, rfl, hU.to fun g hg hl => ⟨hb9.block g hl (by omega), by omega⟩⟩, hB3.own hb9 (by omega), L2, hs2, hL2, hp2, hR3.own hb9 (by omega)⟩

/-- All five, of rows of so many tokens. -/
structure AllR (N : Nat) : Prop where
  atom : ∀ B d L, d ≤ 32 → Row L → L.length ≤ 70000 → L.length < N → ReadsAt 85 B d L (atomV d (pl L))
  not : ∀ B d L, d ≤ 32 → Row L → L.length ≤ 70000 → L.length < N → ReadsAt 57 B d L (notV d (pl L))
  cat : ∀ B d L, d ≤ 32 → Row L → L.length ≤ 70000 → L.length < N → ReadsAt 46 B d L (catV d (pl L))
  and : ∀ B d L, d ≤ 32 → Row L → L.length ≤ 70000 → L.length < N → ReadsAt 27 B d L (andV d (pl L))
  re : ∀ B d L, d ≤ 32 → Row L → L.length ≤ 70000 → L.length < N → ReadsAt 13 B d L (reV d (pl L))
theorem allR_step {N : Nat} (h : AllR N) : AllR (N + 1) := by
  have h1 : ∀ B d L, d ≤ 32 → Row L → L.length ≤ 70000 → L.length < N + 1 → ReadsAt 85 B d L (atomV d (pl L)) := fun B d L hd hL hn hN => patom_any B d hd L hL fun t p L1 e hr h32 => h.re B (d + 1) L1 h32 hr (by rw [e, List.length_cons] at hn; omega) (by rw [e, List.length_cons] at hN; omega)
  have h2 : ∀ B d L, d ≤ 32 → Row L → L.length ≤ 70000 → L.length < N + 1 → ReadsAt 57 B d L (notV d (pl L)) := fun B d L hd hL hn hN => pnot_any B d hd L hL (prep_any B d L (h1 B d L hd hL hn hN)) fun t p L1 e hr h32 => h.not B (d + 1) L1 h32 hr (by rw [e, List.length_cons] at hn; omega) (by rw [e, List.length_cons] at hN; omega)
  have h3 : ∀ B d L, d ≤ 32 → Row L → L.length ≤ 70000 → L.length < N + 1 → ReadsAt 46 B d L (catV d (pl L)) := fun B d L hd hL hn hN => pcat_any B d L hL hn fun L' hs hr => by
    have := hs.length_le
    exact h2 B d L' hd hr (by omega) (by omega)
  have h4 : ∀ B d L, d ≤ 32 → Row L → L.length ≤ 70000 → L.length < N + 1 → ReadsAt 27 B d L (andV d (pl L)) := fun B d L hd hL hn hN => pand_any B d L hL hn fun L' hs hr => by
    have := hs.length_le
    exact h3 B d L' hd hr (by omega) (by omega)
  exact ⟨h1, h2, h3, h4, fun B d L hd hL hn hN => pre_any B d L hL hn fun L' hs hr => by
    have := hs.length_le
    exact h4 B d L' hd hr (by omega) (by omega)⟩
theorem allR : ∀ N, AllR N
  | 0 => ⟨fun _ _ _ _ _ _ h => absurd h (Nat.not_lt_zero _), fun _ _ _ _ _ _ h => absurd h (Nat.not_lt_zero _), fun _ _ _ _ _ _ h => absurd h (Nat.not_lt_zero _), fun _ _ _ _ _ _ h => absurd h (Nat.not_lt_zero _), fun _ _ _ _ _ _ h => absurd h (Nat.not_lt_zero _)⟩
  | N + 1 => allR_step (allR N)
/-- re reads an expression. -/
theorem prere_any (B d : Nat) (hd : d ≤ 32) (L : List (Tk × Nat)) (hL : Row L) (hn : L.length ≤ 70000) : ReadsAt 13 B d L (reV d (pl L)) := (allR (L.length + 1)).re B d L hd hL hn (Nat.lt_succ_self _)
end Go.Proofs.Ytbiempopfmpohaa
