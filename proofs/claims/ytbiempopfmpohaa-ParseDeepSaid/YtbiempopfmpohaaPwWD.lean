/-
One deeper: what stands within ( and !. Conditions: those that each names.
What is parsed with a token left over stays what it is, whatever stands behind. Conditions: those that each names.
-/
import Derived.Test.YtbiempopfmpohaaPwParts
import Derived.Test.YtbiempopfmpohaaParseEF
namespace Go.Proofs.Ytbiempopfmpohaa
open Go.RowKit

theorem Rd.cellD {W : World} {B d : Nat} {L : List (Tk × Nat)} (h : Rd W B L d) : W.cell? ⟨B, 1, none⟩ = some (.int .i64 ((d : Nat) : Int)) ∧ W.frozen? ⟨B, 1, none⟩ = false := by
  obtain ⟨g, o, c, m, h1, _⟩ := h
  exact ⟨h1.cell 1, h1.frozen 1⟩
theorem Rd.depth {W : World} {B d : Nat} {L : List (Tk × Nat)} (h : Rd W B L d) (d' : Nat) (v : Int) (hv : v = ((d' : Nat) : Int)) : Rd (W.setCell ⟨B, 1, none⟩ (.int .i64 v)) B L d' := by
  subst hv
  obtain ⟨g, o, c, m, h1, h2, h3, h4, h5, h6, h7⟩ := h
  have hB : Below B W (W.setCell ⟨B, 1, none⟩ (.int .i64 ((d' : Nat) : Int))) := (Below.refl _ _).setCell (p := ⟨B, 1, none⟩) (Nat.le_refl _) _
  exact ⟨g, o, c, m, h1.set 1 (.int .i64 ((d' : Nat) : Int)), h2, h3, h4, h5, KRow.below hB h2 h6, h7.below hB h3⟩
theorem Left.depth {B d d' : Nat} {L : List (Tk × Nat)} {w w' : World} {R : List Tk} (h : Left B d L w w' R) (v : Int) (hv : v = ((d' : Nat) : Int)) : Left B d' L w (w'.setCell ⟨B, 1, none⟩ (.int .i64 v)) R := by
  obtain ⟨h1, L', h2, h3, h4, h5⟩ := h
  exact ⟨h1.set 1 _ (.inl rfl), L', h2, h3, h4, h5.depth d' v hv⟩

set_option maxRecDepth 100000 in
set_option maxHeartbeats 2000000 in
theorem pdeeper_any (B d : Nat) (hd : d ≤ 32) (t : Tk) (p : Nat) (L : List (Tk × Nat)) (hk : t.kind ≠ 0) (hL : Row ((t, p) :: L)) (f : Nat) (ef : ∀ v W, (callFunc f #[v]).run Try.prog W = .ok (.enter f #[v]) W) (ans : PAns Rx) (w : World) (hR : Rd w B ((t, p) :: L) d)
    (hf : d < 32 → ∀ W, Rd W B L (d + 1) → Calls Try.prog f #[.pointer (some ⟨B, 0, none⟩)] W fun e w' => PA B (d + 1) L W ans e w') :
    Calls Try.prog 72 #[.pointer (some ⟨B, 0, none⟩), .func (.func f) #[] #[]] w fun e w' => PA B d ((t, p) :: L) w (if 32 ≤ d then .error (8, pl ((t, p) :: L)) else ans) e w' := by
  have hlt := hR.lt
  have HF := Lib.hid hf
  have HT := Lib.hid (fun W h => ptake_any B d t p L W h)
  have HW := Lib.hid (fun W h => pwrong_any B d t p L 8 W h)
  have hA := hR.alloc (.cells zr9 27)
  have hF := Blk.new w 27 zr9
  have hB0 := bal0 w (.cells zr9 27)
  obtain ⟨w1, hw1⟩ : ∃ w1, w.alloc (.cells zr9 27) = w1 := ⟨_, rfl⟩
  rw [hw1] at hA hF hB0
  obtain ⟨r1, f1⟩ := hA.cellD
  obtain ⟨hL1, hp1⟩ := hL.tail hk
  clear hf hR
  by_cases h32 : 32 ≤ d
  · obtain rfl : d = 32 := by omega
    rw [if_pos (Nat.le_refl 32)]
    go_enter Try.func72, Try.ntmps72
    go_wp2_with fail
    refine (HW.out _ hA).mono ?_
    rintro e w2 ⟨rfl, hb2⟩
    exact ⟨rfl, Btt.ofB (btr hB0 hb2), _, List.suffix_refl _, hL, rfl, rfl⟩
  · rw [if_neg h32]
    have hne : (((d : Nat) : Int) == 32) = false := by simp; omega
    have hfd := HF.out (by omega)
    go_enter Try.func72, Try.ntmps72
    go_wp2_with fail
    refine (HT.out _ hA).mono ?_
    rintro e w2 ⟨rfl, hb2, hR2⟩
    have hF2 := hb2.at hF (by omega)
    have hB2 := (Btt.ofB (B := B) hB0).next hb2
    obtain ⟨r2, f2⟩ := hR2.cellD
    clear r1 f1 hA hF hb2
    go_wp2_with fail
    have hR3 := hR2.depth (d + 1) (((d : Nat) : Int) + 1) (by omega)
    have hF3 := hF2.other ⟨B, 1, none⟩ (.int .i64 (((d : Nat) : Int) + 1)) (by simp only; omega)
    have hB3 := hB2.set 1 (.int .i64 (((d : Nat) : Int) + 1)) (.inl rfl)
    have HQ := Lib.hid (hfd _ hR3)
    clear hR2 hF2 hB2 r2 f2 hR3 HF HT HW
    generalize w2.setCell ⟨B, 1, none⟩ (.int .i64 (((d : Nat) : Int) + 1)) = w3 at *
    cases ans with
    | error x =>
      obtain ⟨c, Q⟩ := x
      refine HQ.out.mono ?_
      rintro e w4 ⟨hb4, L4, hs4, hL4, hp4, rfl⟩
      exact ⟨rfl, hB3.next hb4, L4, hs4.trans (List.suffix_cons _ _), hL4, hp4, rfl⟩
    | ok y =>
      obtain ⟨a, R⟩ := y
      refine HQ.out.mono ?_
      rintro e w4 ⟨⟨ao, cap, rfl, hU⟩, hb4, L4, hs4, hL4, hp4, hR4⟩
      have hF4 := hb4.at hF3 (by omega)
      have hB4 := hB3.next hb4
      have hsz := hB4.size
      have hltF := hF4.lt
      have hE := Blk.new w4 27 zr9
      have hF5 := hF4.alloc (.cells zr9 27)
      have hR5 := hR4.alloc (.cells zr9 27)
      have hB5 := hB4.alloc (.cells zr9 27)
      have hU' := hU.mono (G := fun k => w.heap.size < k) fun g hg _ => by have := hF3.lt; omega
      have HU := Lib.hid (fun (W : World) (hb : Below w4.heap.size w4 W) => hU'.on hb)
      clear hF3 hF4 hB3 hb4 hR4 hU hU' HQ
      go_wp2_with (first | (refine wp_put rfl _ _ _ rfl w4.heap.size _ (rxCells a ao cap) rfl rfl hE (by rw [size_re]; rfl) rfl (by simp [Value.oneCell']) ?_; intro w5 hE5 hb5; have hF6 := hb5.at hF5 (by omega); have hR6 := hR5.own hb5 (by omega); have hB6 := hB5.own hb5 hsz; obtain ⟨r6, f6⟩ := hR6.cellD) | (refine wp_get rfl _ _ rfl w4.heap.size (rxCells a ao cap) _ rfl (hE5.other ⟨B, 1, none⟩ (.int .i64 ((d : Nat) : Int)) (by simp only; omega)) Try.underlying27 rfl (by rw [size_re]; rfl) ?_) | (refine wp_put rfl _ _ _ rfl w.heap.size _ (rxCells a ao cap) rfl rfl (hF6.other ⟨B, 1, none⟩ (.int .i64 ((d : Nat) : Int)) (by simp only; omega)) (by rw [size_re]; rfl) rfl (by simp [Value.oneCell']) ?_; intro w8 hF8 hb8) | fail)
      have hR7 := hR6.depth d ((d : Nat) : Int) rfl
      have hB7 := hB6.set 1 (.int .i64 ((d : Nat) : Int)) (.inl rfl)
      have HU7 := Lib.hid (ReU.btt (HU.out _ ((bal0 w4 _).trans (hb5.low (n := w4.heap.size) (Nat.le_refl _) (by rw [World.size_alloc]; omega)))) ((Btt.refl B w5).set 1 (.int .i64 ((d : Nat) : Int)) (.inl rfl)) (.inl (by omega)))
      have hsz5 : w.heap.size ≤ w5.heap.size := hB6.size
      refine ret_blk _ _ _ _ _ rfl rfl rfl hF8 Try.underlying27 rfl (by rw [size_re]; rfl) ?_
      exact ⟨⟨ao, cap, rfl, HU7.out.to fun g hg hl => ⟨hb8.block g hl (by omega), by omega⟩⟩, hB7.own hb8 (Nat.le_refl _), L4, hs4.trans (List.suffix_cons _ _), hL4, hp4, hR7.own hb8 hlt⟩
end Go.Proofs.Ytbiempopfmpohaa
namespace Go.Proofs.Ytbiempopfmpohaa

theorem sgn_app {R : List Tk} (h : R ≠ []) (s : List UInt8) (E : List Tk) : sgn s (R ++ E) = sgn s R := by
  cases R with
  | nil => exact absurd rfl h
  | cons t R => rfl
theorem beg_app {R : List Tk} (h : R ≠ []) (E : List Tk) : begB (R ++ E) = begB R := by
  cases R with
  | nil => exact absurd rfl h
  | cons t R => rfl
theorem sgn_ne {s : List UInt8} {R : List Tk} (h : sgn s R = true) : R ≠ [] := by
  obtain ⟨t, R', rfl⟩ := sgn_pos h
  exact nofun
theorem ne_of_len {R T : List Tk} (h : R ≠ []) (hl : R.length ≤ T.length) : T ≠ [] := by
  intro e
  subst e
  exact h (List.length_eq_zero_iff.1 (by simpa using hl))
theorem post_any (E : List Tk) {a x : Rx} {R Q : List Tk} (hQ : Q ≠ []) (h : postF a R = .ok (x, Q)) : postF a (R ++ E) = .ok (x, Q ++ E) := by
  have hR := ne_of_len hQ (post_len h)
  unfold postF at h ⊢
  rw [sgn_app hR, sgn_app hR, sgn_app hR, sgn_app hR]
  split
  · rename_i hc
    rw [if_pos hc] at h
    cases h
    rw [(sgn_front hc).2]
  rename_i n1
  rw [if_neg n1] at h
  split
  · rename_i hc
    rw [if_pos hc] at h
    cases h
    rw [(sgn_front hc).2]
  rename_i n2
  rw [if_neg n2] at h
  split
  · rename_i hc
    rw [if_pos hc] at h
    cases h
    rw [(sgn_front hc).2]
  rename_i n3
  rw [if_neg n3] at h
  split
  · rename_i hc
    rw [if_pos hc] at h
    rw [(sgn_front hc).2]
    cases hn : numF 0 R.tail with
    | none => rw [hn] at h; cases h
    | some p =>
      obtain ⟨m, R1⟩ := p
      rw [hn] at h
      rw [num_ext E hn]
      simp only at h ⊢
      by_cases hc1 : sgn [44] R1 = true
      · rw [if_pos hc1] at h
        rw [if_pos (sgn_front hc1).1, (sgn_front hc1).2]
        cases hn2 : numF m R1.tail with
        | none => rw [hn2] at h; cases h
        | some p =>
          obtain ⟨k, R2⟩ := p
          rw [hn2] at h
          rw [num_ext E hn2]
          simp only at h ⊢
          by_cases hc2 : sgn [125] R2 = true
          · rw [if_pos hc2] at h
            cases h
            rw [if_pos (sgn_front hc2).1, (sgn_front hc2).2]
          · rw [if_neg hc2] at h
            cases h
      · rw [if_neg hc1] at h
        by_cases hc2 : sgn [125] R1 = true
        · rw [if_pos hc2] at h
          cases h
          rw [if_neg (by rw [sgn_app (sgn_ne hc2)]; exact hc1), if_pos (sgn_front hc2).1, (sgn_front hc2).2]
        · rw [if_neg hc2] at h
          cases h
  rename_i n4
  rw [if_neg n4] at h
  cases h
  rfl
theorem parse_any (E : List Tk) : ∀ (n : Nat) (nt : NT) (d : Nat) (T : List Tk) (l : List Rx) (R : List Tk), R ≠ [] → parse n nt d T = .ok (l, R) → parse n nt d (T ++ E) = .ok (l, R ++ E)
  | 0, _, _, _, _, _, _, h => by cases h
  | n + 1, .reL, d, T, l, R, hR, h => by
    rw [parse_re] at h ⊢
    cases h1 : parse n .andL d T with
    | error x => rw [h1] at h; cases h
    | ok p =>
      obtain ⟨l1, R1⟩ := p
      rw [h1] at h
      simp only at h
      by_cases hc : sgn [124] R1 = true
      · rw [if_pos hc] at h
        rw [parse_any E n .andL d T l1 R1 (sgn_ne hc) h1]
        simp only
        rw [if_pos (sgn_front hc).1, (sgn_front hc).2]
        cases h2 : parse n .reL d R1.tail with
        | error x => rw [h2] at h; cases h
        | ok p =>
          obtain ⟨l2, R2⟩ := p
          rw [h2] at h
          cases h
          rw [parse_any E n .reL d R1.tail l2 R hR h2]
      · rw [if_neg hc] at h
        cases h
        rw [parse_any E n .andL d T l1 R hR h1]
        simp only
        rw [if_neg (by rw [sgn_app hR]; exact hc)]
  | n + 1, .andL, d, T, l, R, hR, h => by
    rw [parse_and] at h ⊢
    cases h1 : parse n .catL d T with
    | error x => rw [h1] at h; cases h
    | ok p =>
      obtain ⟨l1, R1⟩ := p
      rw [h1] at h
      simp only at h
      by_cases hc : sgn [38] R1 = true
      · rw [if_pos hc] at h
        rw [parse_any E n .catL d T l1 R1 (sgn_ne hc) h1]
        simp only
        rw [if_pos (sgn_front hc).1, (sgn_front hc).2]
        cases h2 : parse n .andL d R1.tail with
        | error x => rw [h2] at h; cases h
        | ok p =>
          obtain ⟨l2, R2⟩ := p
          rw [h2] at h
          cases h
          rw [parse_any E n .andL d R1.tail l2 R hR h2]
      · rw [if_neg hc] at h
        cases h
        rw [parse_any E n .catL d T l1 R hR h1]
        simp only
        rw [if_neg (by rw [sgn_app hR]; exact hc)]
  | n + 1, .catL, d, T, l, R, hR, h => by
    rw [parse_cat] at h ⊢
    cases h1 : parse n .not d T with
    | error x => rw [h1] at h; cases h
    | ok p =>
      obtain ⟨l1, R1⟩ := p
      rw [h1] at h
      simp only at h
      by_cases hc : begB R1 = true
      · rw [if_pos hc] at h
        cases h2 : parse n .catL d R1 with
        | error x => rw [h2] at h; cases h
        | ok p =>
          obtain ⟨l2, R2⟩ := p
          rw [h2] at h
          cases h
          have hR1 := ne_of_len hR (Nat.le_of_lt (parse_len n .catL d R1 l2 R h2))
          rw [parse_any E n .not d T l1 R1 hR1 h1]
          simp only
          rw [if_pos (by rw [beg_app hR1]; exact hc), parse_any E n .catL d R1 l2 R hR h2]
      · rw [if_neg hc] at h
        cases h
        rw [parse_any E n .not d T l R hR h1]
        simp only
        rw [if_neg (by rw [beg_app hR]; exact hc)]
  | n + 1, .not, d, T, l, R, hR, h => by
    rw [parse_not] at h ⊢
    by_cases hc : sgn [33] T = true
    · rw [if_pos hc] at h
      rw [if_pos (sgn_front hc).1, (sgn_front hc).2]
      by_cases hd : 32 ≤ d
      · rw [if_pos hd] at h; cases h
      · rw [if_neg hd] at h ⊢
        cases h2 : parse n .not (d + 1) T.tail with
        | error x => rw [h2] at h; cases h
        | ok p =>
          obtain ⟨l2, R2⟩ := p
          rw [h2] at h
          cases h
          rw [parse_any E n .not (d + 1) T.tail l2 R hR h2]
    · rw [if_neg hc] at h
      cases h1 : parse n .atom d T with
      | error x => rw [h1] at h; cases h
      | ok p =>
        obtain ⟨l1, R1⟩ := p
        rw [h1] at h
        simp only at h
        cases h2 : postF (tog 4 l1) R1 with
        | error x => rw [h2] at h; cases h
        | ok p =>
          obtain ⟨a, R2⟩ := p
          rw [h2] at h
          cases h
          have hR1 := ne_of_len hR (post_len h2)
          have hT := ne_of_len hR1 (Nat.le_of_lt (parse_len n .atom d T l1 R1 h1))
          rw [if_neg (by rw [sgn_app hT]; exact hc), parse_any E n .atom d T l1 R1 hR1 h1]
          simp only
          rw [post_any E hR h2]
  | n + 1, .atom, d, T, l, R, hR, h => by
    rw [parse_atom] at h ⊢
    by_cases hc : sgn [40] T = true
    · rw [if_pos hc] at h
      rw [if_pos (sgn_front hc).1, (sgn_front hc).2]
      by_cases hd : 32 ≤ d
      · rw [if_pos hd] at h; cases h
      · rw [if_neg hd] at h ⊢
        cases h2 : parse n .reL (d + 1) T.tail with
        | error x => rw [h2] at h; cases h
        | ok p =>
          obtain ⟨l2, R2⟩ := p
          rw [h2] at h
          simp only at h
          by_cases hp : sgn [41] R2 = true
          · rw [if_pos hp] at h
            cases h
            rw [parse_any E n .reL (d + 1) T.tail l2 R2 (sgn_ne hp) h2]
            simp only
            rw [if_pos (sgn_front hp).1, (sgn_front hp).2]
          · rw [if_neg hp] at h
            cases h
    · rw [if_neg hc] at h
      cases T with
      | nil => cases h
      | cons t T =>
        rw [if_neg (by rw [sgn_app (by simp)]; exact hc)]
        simp only [List.cons_append] at h ⊢
        cases ha : atomT t with
        | none => rw [ha] at h; cases h
        | some a =>
          rw [ha] at h
          cases h
          rfl
end Go.Proofs.Ytbiempopfmpohaa
