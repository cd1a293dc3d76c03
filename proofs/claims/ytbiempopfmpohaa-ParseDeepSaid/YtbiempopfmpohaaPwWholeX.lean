/-
  All that a text says, where its tokens are right: whole, as it has landed, of an expression. Conditions: at most 65536 bytes.
-/
import Derived.Test.YtbiempopfmpohaaPwWholeW
import Derived.Test.YtbiempopfmpohaaPwRe
namespace Go.Proofs.Ytbiempopfmpohaa
open Go.RowKit

theorem pend_cells (z : Nat) : tokC [(Tk.none, z)] = [.int .i64 0, .string { data := #[] }, .int .u64 0, .int .u64 0, .int .u64 0, .int .u64 0, .int .i64 0, .int .i64 ((z : Nat) : Int)] := by
  simp [tokC, Tk.none, zero_set, mkS]
theorem fr_end {t : Tk} {p : Nat} {L : List (Tk × Nat)} (h : Row ((t, p) :: L)) : decide (frF t = (0, [])) = (pl ((t, p) :: L)).isEmpty := by
  rcases h.parts with ⟨q, e⟩ | ⟨u, q, L', e, hk, _, e2⟩
  · cases e; rfl
  · cases e
    rw [e2]
    refine decide_eq_false fun h => hk ?_
    unfold frF at h
    split at h
    · exact (Prod.mk.inj h).1
    · exact (Prod.mk.inj h).1
theorem pmust_end (B d : Nat) (L : List (Tk × Nat)) (w : World) (hR : Rd w B L d) (hL : Row L) :
    Calls Try.prog 23 #[.pointer (some ⟨B, 0, none⟩), .agg #[.int .i64 0, .string { data := #[] }]] w fun e w' => Btt B w w' ∧ if (pl L).isEmpty = true then ∃ t p, e = .returned (tokV t p) else e = Flt (hdP L) 4 := by
  obtain ⟨t, p, L1, rfl⟩ := hL.cons
  have := pmust_any B d t p L1 0 { data := #[] } w hR
  rw [show bl { data := #[] } = [] from rfl, fr_end hL] at this
  refine this.mono ?_
  rintro e w' ⟨h1, h2⟩
  refine ⟨h1, ?_⟩
  split
  · rename_i h; rw [if_pos h] at h2; exact ⟨t, _, h2.1⟩
  · rename_i h; rw [if_neg h] at h2; exact h2
theorem below_grown {n : Nat} {W W' : World} {row : Option Nat} (hg : W.grownBy W' row) (hn : n ≤ W.heap.size) (hr : ∀ k, row = some k → n ≤ k) : Below n W W' :=
  ⟨hg.os, hg.tape, hg.output, hg.size, fun k hk => hg.block k (by omega) fun e => by have := hr k e.symm; omega⟩
theorem Rd.aside {W W' : World} {B d b : Nat} {T : TypeId} {cs : Array Value} {L : List (Tk × Nat)} (h : Rd W B L d) (hL : Row L) (hb : Blk W b T cs) (hcs : ∀ (o : Nat) (x : ByteArray) (n : Int), cs[o + 1]? = some (.string x) → cs[o + 6]? = some (.int .i64 n) → False) (hk : Btt b W W') (hne : B ≠ b) : Rd W' B L d := by
  obtain ⟨g, o, c, m, h1, h2, h3, h4, h5, h6, h7⟩ := h
  obtain ⟨t, p, L1, rfl⟩ := hL.cons
  have hg : g ≠ b := by
    rintro rfl
    obtain ⟨⟨_, k1, _, _, _, _, k6, _⟩, _⟩ := h6
    exact hcs o _ _ ((hb.cell _).symm.trans k1) ((hb.cell _).symm.trans k6)
  obtain ⟨es, clk, e1, e2⟩ := h7
  have hm : m ≠ b := by
    rintro rfl
    have := hb.symm.trans e1
    cases this
  have hB : B < W.heap.size := h1.lt
  have hKR : ∀ {o : Nat} {L : List (Tk × Nat)}, KRow W g o L → KRow W' g o L := by
    intro o L
    induction L generalizing o with
    | nil => intro _; trivial
    | cons x L ih =>
      rintro ⟨q1, q2⟩
      have e : ∀ k, W'.cell? ⟨g, k, none⟩ = W.cell? ⟨g, k, none⟩ := fun k => World.cell?_of_block (a := ⟨g, k, none⟩) (hk.block g (by omega) hg)
      obtain ⟨r0, r1, r2, r3, r4, r5, r6, r7⟩ := q1
      exact ⟨⟨(e _).trans r0, (e _).trans r1, (e _).trans r2, (e _).trans r3, (e _).trans r4, (e _).trans r5, (e _).trans r6, (e _).trans r7⟩, ih q2⟩
  exact ⟨g, o, c, m, hk.at h1 hne, h2, h3, h4, h5, hKR h6, es, clk, (hk.block m (by omega) hm).trans e1, e2⟩
theorem Blk.cells9 {W : World} {R : Nat} {T : TypeId} {a : Rx} {ao : Option Addr} {cap : Nat} (h : Blk W R T (rxCells a ao cap)) : (W.cell? ⟨R, 0, none⟩ = some (.int .i64 a.kind) ∧ W.cell? ⟨R, 1, none⟩ = some (.string (mkS a.text)) ∧ W.cell? ⟨R, 2, none⟩ = some (.int .u64 ((wd a.set 0 : Nat) : Int)) ∧ W.cell? ⟨R, 3, none⟩ = some (.int .u64 ((wd a.set 1 : Nat) : Int)) ∧ W.cell? ⟨R, 4, none⟩ = some (.int .u64 ((wd a.set 2 : Nat) : Int)) ∧ W.cell? ⟨R, 5, none⟩ = some (.int .u64 ((wd a.set 3 : Nat) : Int)) ∧ W.cell? ⟨R, 6, none⟩ = some (.slice ao a.parts.length cap) ∧ W.cell? ⟨R, 7, none⟩ = some (.int .i64 a.lo) ∧ W.cell? ⟨R, 8, none⟩ = some (.int .i64 a.hi)) ∧
    (W.frozen? ⟨R, 0, none⟩ = false ∧ W.frozen? ⟨R, 1, none⟩ = false ∧ W.frozen? ⟨R, 2, none⟩ = false ∧ W.frozen? ⟨R, 3, none⟩ = false ∧ W.frozen? ⟨R, 4, none⟩ = false ∧ W.frozen? ⟨R, 5, none⟩ = false ∧ W.frozen? ⟨R, 6, none⟩ = false ∧ W.frozen? ⟨R, 7, none⟩ = false ∧ W.frozen? ⟨R, 8, none⟩ = false) :=
  ⟨⟨h.cell 0, h.cell 1, h.cell 2, h.cell 3, h.cell 4, h.cell 5, h.cell 6, h.cell 7, h.cell 8⟩, ⟨h.frozen 0, h.frozen 1, h.frozen 2, h.frozen 3, h.frozen 4, h.frozen 5, h.frozen 6, h.frozen 7, h.frozen 8⟩⟩
theorem zr9_no (o : Nat) (x : ByteArray) (n : Int) (h1 : zr9[o + 1]? = some (.string x)) (h2 : zr9[o + 6]? = some (.int .i64 n)) : False := by
  match o with
  | 0 => cases h2
  | 1 => cases h1
  | 2 => cases h1
  | o + 3 => simp at h2
/-- What whole answers. -/
def Wh_re (L : List (Tk × Nat)) (z : Nat) (w : World) (ans : PAns Rx) (e : Ending) (w' : World) : Prop := Below w.heap.size w w' ∧ match ans with
  | .error x => ∃ L', L' <:+ L ∧ Row L' ∧ pl L' = x.2 ∧ e = .returned (.tuple #[(.agg #[.int .i64 0, .string { data := #[] }, .int .u64 0, .int .u64 0, .int .u64 0, .int .u64 0, .slice none 0 0, .int .i64 0, .int .i64 0]), .int .i64 ((hdP L' : Nat) : Int), .int .i64 ((x.1 : Nat) : Int)])
  | .ok y => if y.2.isEmpty = true then ∃ ao cap, e = .returned (.tuple #[rxV y.1 ao cap, .int .i64 ((z : Nat) : Int), .int .i64 0]) ∧ ReU w' (fun k => w.heap.size ≤ k) y.1 ao cap
    else ∃ L', L' <:+ L ∧ Row L' ∧ pl L' = y.2 ∧ e = .returned (.tuple #[(.agg #[.int .i64 0, .string { data := #[] }, .int .u64 0, .int .u64 0, .int .u64 0, .int .u64 0, .slice none 0 0, .int .i64 0, .int .i64 0]), .int .i64 ((hdP L' : Nat) : Int), .int .i64 4])
set_option maxRecDepth 100000 in
set_option maxHeartbeats 4000000 in
theorem whole_re_ok (s : ByteArray) (hs : s.size ≤ 65536) (z : Nat) (hz : (bl s).length = z) (A : List (Tk × Nat)) (hA : allL (bl s) 0 = .ok A) (hAn : A.length ≤ 65536) (ans : PAns Rx) (f : Nat) (ef : ∀ v W, (callFunc f #[v]).run Try.prog W = .ok (.enter f #[v]) W) (w : World)
    (hf : ∀ W B, Rd W B (A ++ [(Tk.none, z)]) 0 → Calls Try.prog f #[.pointer (some ⟨B, 0, none⟩)] W fun e w' => PA B 0 (A ++ [(Tk.none, z)]) W ans e w') :
    Calls Try.prog 12 #[.string s, .func (.func f) #[] #[]] w fun e w' => Wh_re (A ++ [(Tk.none, z)]) z w ans e w' := by
  have hmf := mkfunc
  obtain ⟨ii, hi, hz0, hz1, hz2⟩ := info_parts info_tok
  have HA := Lib.hid (fun W => allo_any s hs W)
  have HF := Lib.hid hf
  have HP := Lib.hid (fun W => pplains_any W)
  have HK := Lib.hid (fun W => pkind_any 0 W)
  have HU := Lib.hid (fun B L W h hL => pmust_end B 0 L W h hL)
  obtain ⟨hrow, hpl⟩ := row_end A (allL_kinds _ _ _ (Nat.le_refl _) hA) z
  have hA' := hA
  have HZ := Lib.hid hz
  have t0 := ((Blk.new w 27 #[.int .i64 0, .string { data := #[] }, .int .u64 0, .int .u64 0, .int .u64 0, .int .u64 0, .slice none 0 0, .int .i64 0, .int .i64 0]).alloc (.cells #[.int .i64 0] 3)).alloc (.cells #[.int .i64 0] 28)
  have t1 := (Blk.new (w.alloc (.cells #[.int .i64 0, .string { data := #[] }, .int .u64 0, .int .u64 0, .int .u64 0, .int .u64 0, .slice none 0 0, .int .i64 0, .int .i64 0] 27)) 3 #[.int .i64 0]).alloc (.cells #[.int .i64 0] 28)
  have t2 := Blk.new ((w.alloc (.cells #[.int .i64 0, .string { data := #[] }, .int .u64 0, .int .u64 0, .int .u64 0, .int .u64 0, .slice none 0 0, .int .i64 0, .int .i64 0] 27)).alloc (.cells #[.int .i64 0] 3)) 28 #[.int .i64 0]
  have hB0 := bal (bal (bal0 w (.cells #[.int .i64 0, .string { data := #[] }, .int .u64 0, .int .u64 0, .int .u64 0, .int .u64 0, .slice none 0 0, .int .i64 0, .int .i64 0] 27)) (.cells #[.int .i64 0] 3)) (.cells #[.int .i64 0] 28)
  rw [World.size_alloc] at t1
  rw [World.size_alloc, World.size_alloc] at t2
  have hs0 : (((w.alloc (.cells #[.int .i64 0, .string { data := #[] }, .int .u64 0, .int .u64 0, .int .u64 0, .int .u64 0, .slice none 0 0, .int .i64 0, .int .i64 0] 27)).alloc (.cells #[.int .i64 0] 3)).alloc (.cells #[.int .i64 0] 28)).heap.size = w.heap.size + 3 := by simp
  clear hf hz
  go_enter_defers Try.func12, Try.ntmps12
  go_wp2_with fail
  refine (HA.out _).mono ?_
  rintro e w1 ha
  unfold AllO at ha
  rw [hA, HZ.out] at ha
  obtain ⟨v0, rfl, hown, hb⟩ := ha
  rw [hs0] at hown
  have hB1 := btr hB0 hb
  have u0 := t0.below hb t0.lt
  have u1 := t1.below hb t1.lt
  have u2 := t2.below hb t2.lt
  have c1 := u1.cell 0
  have c2 := u2.cell 0
  have z1 := u1.frozen 0
  have z2 := u2.frozen 0
  simp only [List.getElem?_toArray, List.getElem?_cons_zero] at c1 c2
  have h2 := (u2.other ⟨w.heap.size + 1, 0, none⟩ (.int .i64 ((z : Nat) : Int)) (by simp)).set 0 (.int .i64 0)
  have h1 := (u1.set 0 (.int .i64 ((z : Nat) : Int))).other ⟨w.heap.size + 1 + 1, 0, none⟩ (.int .i64 0) (by simp)
  have h0 := (u0.other ⟨w.heap.size + 1, 0, none⟩ (.int .i64 ((z : Nat) : Int)) (by simp)).other ⟨w.heap.size + 1 + 1, 0, none⟩ (.int .i64 0) (by simp; omega)
  have hB2 := (hB1.setCell (p := ⟨w.heap.size + 1, 0, none⟩) (by simp) (.int .i64 ((z : Nat) : Int))).setCell (p := ⟨w.heap.size + 1 + 1, 0, none⟩) (by simp; omega) (.int .i64 0)
  have hown1 := ((Btt.refl (w.heap.size + 1) w1).set 0 (.int .i64 ((z : Nat) : Int)) (.inl rfl)).owns hown (fun k hk e => by have := (hown.lt k hk).1; omega)
  have hown2 := ((Btt.refl (w.heap.size + 1 + 1) (w1.setCell ⟨w.heap.size + 1, 0, none⟩ (.int .i64 ((z : Nat) : Int)))).set 0 (.int .i64 0) (.inl rfl)).owns hown1 (fun k hk e => by have := (hown1.lt k hk).1; omega)
  simp only [List.setIfInBounds_toArray, List.set_cons_zero] at h1 h2
  have hs1 := hb.size
  rw [hs0] at hs1
  have hsz2 : ((w1.setCell ⟨w.heap.size + 1, 0, none⟩ (.int .i64 ((z : Nat) : Int))).setCell ⟨w.heap.size + 1 + 1, 0, none⟩ (.int .i64 0)).heap.size = w1.heap.size := by rw [World.size_setCell, World.size_setCell]
  clear hb t0 t1 t2 hB0 u0 u1 u2 hB1 hA HA hown hown1
  obtain ⟨W2, hW2⟩ : ∃ W2, (w1.setCell ⟨w.heap.size + 1, 0, none⟩ (.int .i64 ((z : Nat) : Int))).setCell ⟨w.heap.size + 1 + 1, 0, none⟩ (.int .i64 0) = W2 := ⟨_, rfl⟩
  rw [hW2] at h0 h1 h2 hB2 hown2 hsz2
  rw [← hsz2] at hs1
  have g0 := h0.alloc (.cells #[.int .i64 0, .string { data := #[] }, .int .u64 0, .int .u64 0, .int .u64 0, .int .u64 0, .int .i64 0, .int .i64 ((z : Nat) : Int)] 65)
  have g1 := h1.alloc (.cells #[.int .i64 0, .string { data := #[] }, .int .u64 0, .int .u64 0, .int .u64 0, .int .u64 0, .int .i64 0, .int .i64 ((z : Nat) : Int)] 65)
  have g2 := h2.alloc (.cells #[.int .i64 0, .string { data := #[] }, .int .u64 0, .int .u64 0, .int .u64 0, .int .u64 0, .int .i64 0, .int .i64 ((z : Nat) : Int)] 65)
  have hownA := hown2.alloc (.cells #[.int .i64 0, .string { data := #[] }, .int .u64 0, .int .u64 0, .int .u64 0, .int .u64 0, .int .i64 0, .int .i64 ((z : Nat) : Int)] 65)
  have hBA := bal hB2 (.cells #[.int .i64 0, .string { data := #[] }, .int .u64 0, .int .u64 0, .int .u64 0, .int .u64 0, .int .i64 0, .int .i64 ((z : Nat) : Int)] 65)
  have hnew := cells_new W2 65 [.int .i64 0, .string { data := #[] }, .int .u64 0, .int .u64 0, .int .u64 0, .int .u64 0, .int .i64 0, .int .i64 ((z : Nat) : Int)]
  have hr0 : ∀ k, v0.ownBlock = some k → w.heap.size + 3 ≤ k := fun k hk => (hown2.lt k hk).1
  rw [hsz2] at hnew
  have d1 := h1.cell 0
  have d2 := h2.cell 0
  simp only [List.getElem?_toArray, List.getElem?_cons_zero] at d1 d2
  clear h0 h1 h2 hB2 hown2
  go_wp2_with (first | (at_builtin; go_loud (refine wpList_append_own _ rfl _ _ 59 rfl (w.heap.size + 3) 65 ii (.agg zr8) 8 72 Try.underlying59 hi hz0 hz1 hz2 rfl (by decide) v0 A.length (tokC A) rfl hownA ⟨w1.heap.size, 0, none⟩ 1 1 [.int .i64 0, .string { data := #[] }, .int .u64 0, .int .u64 0, .int .u64 0, .int .u64 0, .int .i64 0, .int .i64 ((z : Nat) : Int)] rfl rfl hnew (by simp [Value.oneCell']) (by unfold maxLen; omega) (by omega) (by rw [World.size_alloc]; omega) ?_; intro v' w4 hown4 hg4 _; rw [← pend_cells z, ← tokC_append] at hown4; obtain ⟨g, cp, rfl, k1, k2, k3, k4, k5⟩ := krow_of_owns (L := A ++ [(Tk.none, z)]) (by rw [List.length_append]; exact hown4) (by simp))) | fail)
  have h0 := g0.grown hg4 (fun e => by have := hr0 _ e; omega)
  have h1 := g1.grown hg4 (fun e => by have := hr0 _ e; omega)
  have h2 := g2.grown hg4 (fun e => by have := hr0 _ e; omega)
  have hB4 := hBA.trans (below_grown (n := w.heap.size) hg4 (by rw [World.size_alloc]; omega) (fun k hk => by have := hr0 k hk; omega))
  clear g0 g1 g2 hBA hownA hnew hg4 d1 d2 c1 c2 z1 z2 hown4
  refine (HP.out _).mono ?_
  rintro e w5 ⟨m, rfl, m1, m2, hb5, hPM⟩
  have h0 := h0.below hb5 h0.lt
  have h1 := h1.below hb5 h1.lt
  have h2 := h2.below hb5 h2.lt
  have hB5 := btr hB4 hb5
  have hK5 := KRow.below hb5 k4 k5
  have hg5 := Nat.lt_of_lt_of_le k4 hb5.size
  have hsz5 := hB4.size
  have hb5s := hb5.size
  have hl5 := h2.lt
  have hBR := Blk.new w5 69 #[.slice (some ⟨g, 0, none⟩) (A.length + 1) cp, .int .i64 0, .map (some m)]
  have hb6 := bal0 w5 (.cells #[.slice (some ⟨g, 0, none⟩) (A.length + 1) cp, .int .i64 0, .map (some m)] 69)
  have hs6 : (w5.alloc (.cells #[.slice (some ⟨g, 0, none⟩) (A.length + 1) cp, .int .i64 0, .map (some m)] 69)).heap.size = w5.heap.size + 1 := World.size_alloc _ _
  have hRd : Rd (w5.alloc (.cells #[.slice (some ⟨g, 0, none⟩) (A.length + 1) cp, .int .i64 0, .map (some m)] 69)) w5.heap.size (A ++ [(Tk.none, z)]) 0 :=
    ⟨g, 0, cp, m, by rw [List.length_append]; exact hBR, hg5, m2, k1, k2, KRow.below hb6 hg5 hK5, hPM.below hb6 m2⟩
  have h0 := h0.alloc (.cells #[.slice (some ⟨g, 0, none⟩) (A.length + 1) cp, .int .i64 0, .map (some m)] 69)
  have h1 := h1.alloc (.cells #[.slice (some ⟨g, 0, none⟩) (A.length + 1) cp, .int .i64 0, .map (some m)] 69)
  have h2 := h2.alloc (.cells #[.slice (some ⟨g, 0, none⟩) (A.length + 1) cp, .int .i64 0, .map (some m)] 69)
  have hB6 := bal hB5 (.cells #[.slice (some ⟨g, 0, none⟩) (A.length + 1) cp, .int .i64 0, .map (some m)] 69)
  have HF6 := Lib.hid (HF.out _ _ hRd)
  clear hb5 hB4 hB5 hK5 hPM hRd k5 hBR
  go_wp2_with fail
  generalize w5.alloc (.cells #[.slice (some ⟨g, 0, none⟩) (A.length + 1) cp, .int .i64 0, .map (some m)] 69) = w6 at *
  cases ans with
  | error x =>
    obtain ⟨c, Q⟩ := x
    refine HF6.out.mono ?_
    rintro e w7 ⟨hb7, L7, hs7, hL7, hp7, rfl⟩
    have h0 := hb7.at h0 (by omega)
    have h1 := hb7.at h1 (by omega)
    have h2 := hb7.at h2 (by omega)
    have hB7 := hB6.trans (hb7.low (n := w.heap.size) (by omega) hB6.size)
    refine leaves_cons (f := 21) (args := #[.pointer (some ⟨w.heap.size, 0, none⟩), .pointer (some ⟨w.heap.size + 1, 0, none⟩), .pointer (some ⟨w.heap.size + 1 + 1, 0, none⟩)]) (by simp) (by simp [go_sem]) ?_
    refine (catch_re w.heap.size (hdP L7) c _ ((z : Nat) : Int) 0 [] _ h0 rfl h1 h2).mono ?_
    rintro e u' w8 ⟨rfl, rfl, hb8, q0, q1, q2⟩
    exact ⟨_, results3 rfl rfl rfl rfl (load_re _ _ _ q0 rfl) q1 q2, hB7.trans hb8, L7, hs7, hL7, hp7, rfl⟩
  | ok y =>
    obtain ⟨a, R⟩ := y
    refine HF6.out.mono ?_
    rintro e w7 ⟨⟨ao, cap, rfl, hU⟩, hb7, L7, hs7, hL7, hp7, hR7⟩
    have h0 := hb7.at h0 (by omega)
    have h1 := hb7.at h1 (by omega)
    have h2 := hb7.at h2 (by omega)
    have hB7 := hB6.trans (hb7.low (n := w.heap.size) (by omega) hB6.size)
    have hU := hU.mono (G := fun k => w5.heap.size < k) fun g hg _ => by omega
    clear hb7 hB6 HF6
    go_wp2_with (first | (refine wp_put rfl _ _ _ rfl w.heap.size _ (rxCells a ao cap) rfl rfl h0 (by rw [size_re]; rfl) rfl (by simp [Value.oneCell']) ?_; intro w8 h0' hb8) | fail)
    have h1 := hb8.at h1 (by omega)
    have h2 := hb8.at h2 (by omega)
    have hB8 := hB7.trans (hb8.low (n := w.heap.size) (Nat.le_refl _) hB7.size)
    have hU := hU.to (W' := w8) (G := fun k => w5.heap.size < k) fun g hg hl => ⟨hb8.block g hl (by omega), hg⟩
    have hR8 := hR7.aside hL7 h0 zr9_no hb8 (by omega)
    refine (HK.out _).mono ?_
    rintro e w9 ⟨rfl, hb9⟩
    have h0 := h0'.below hb9 h0'.lt
    have h1 := h1.below hb9 h1.lt
    have h2 := h2.below hb9 h2.lt
    have hB9 := btr hB8 hb9
    have hU := hU.on hb9
    have hR9 := hR8.below hb9 hR8.lt
    have HU9 := Lib.hid (HU.out _ _ _ hR9 hL7)
    rw [hp7] at HU9
    have hsz9 := hB9.size
    clear hb8 hB7 hB8 hb9 hR7 hR8 HU HK HP HF
    cases hem : R.isEmpty with
    | false =>
      rw [hem] at HU9
      simp only [if_false, Bool.false_eq_true] at HU9
      go_wp2_with fail
      refine HU9.out.mono ?_
      rintro e w10 ⟨hb10, rfl⟩
      have h0 := hb10.at h0 (by omega)
      have h1 := hb10.at h1 (by omega)
      have h2 := hb10.at h2 (by omega)
      have hB10 := hB9.trans (hb10.low (n := w.heap.size) (by omega) hB9.size)
      refine leaves_cons (f := 21) (args := #[.pointer (some ⟨w.heap.size, 0, none⟩), .pointer (some ⟨w.heap.size + 1, 0, none⟩), .pointer (some ⟨w.heap.size + 1 + 1, 0, none⟩)]) (by simp) (by simp [go_sem]) ?_
      refine (catch_re w.heap.size (hdP L7) 4 _ ((z : Nat) : Int) 0 [] _ h0 rfl h1 h2).mono ?_
      rintro e u' w11 ⟨rfl, rfl, hb11, q0, q1, q2⟩
      exact ⟨_, results3 rfl rfl rfl rfl (load_re _ _ _ q0 rfl) q1 q2, hB10.trans hb11, by simp only; rw [hem]; exact ⟨L7, hs7, hL7, hp7, rfl⟩⟩
    | true =>
      rw [hem] at HU9
      simp only [if_true] at HU9
      go_wp2_with fail
      refine HU9.out.mono ?_
      rintro e w10 ⟨hb10, t0, p0, rfl⟩
      have h0 := hb10.at h0 (by omega)
      have h1 := hb10.at h1 (by omega)
      have h2 := hb10.at h2 (by omega)
      have hB2 := hB9.trans (hb10.low (n := w.heap.size) (by omega) hB9.size)
      have hU := hU.btt hb10 (.inl (by omega))
      obtain ⟨⟨d0, d1, d2, d3, d4, d5, d6, d7, d8⟩, f0, f1, f2, f3, f4, f5, f6, f7, f8⟩ := Blk.cells9 h0
      have d10 := h1.cell 0
      have f10 := h1.frozen 0
      have d20 := h2.cell 0
      have f20 := h2.frozen 0
      simp only [List.getElem?_toArray, List.getElem?_cons_zero] at d10 d20
      clear HU9 hb10 hB9 hR9 h0'
      go_wp2_with fail
      go_region
      all_goals
        have qU0 := hU.mono (G := fun k => w.heap.size + 2 < k) fun g hg _ => by omega
        have qU1 := qU0.btt ((Btt.refl (w.heap.size) _).set 0 (.int .i64 a.kind) (.inl rfl)) (.inl (by omega))
        have qU2 := qU1.btt ((Btt.refl (w.heap.size) _).set 1 (.string (mkS a.text)) (.inl rfl)) (.inl (by omega))
        have qU3 := qU2.btt ((Btt.refl (w.heap.size) _).set 2 (.int .u64 ((wd a.set 0 : Nat) : Int)) (.inl rfl)) (.inl (by omega))
        have qU4 := qU3.btt ((Btt.refl (w.heap.size) _).set 3 (.int .u64 ((wd a.set 1 : Nat) : Int)) (.inl rfl)) (.inl (by omega))
        have qU5 := qU4.btt ((Btt.refl (w.heap.size) _).set 4 (.int .u64 ((wd a.set 2 : Nat) : Int)) (.inl rfl)) (.inl (by omega))
        have qU6 := qU5.btt ((Btt.refl (w.heap.size) _).set 5 (.int .u64 ((wd a.set 3 : Nat) : Int)) (.inl rfl)) (.inl (by omega))
        have qU7 := qU6.btt ((Btt.refl (w.heap.size) _).set 6 (.slice ao a.parts.length cap) (.inl rfl)) (.inl (by omega))
        have qU8 := qU7.btt ((Btt.refl (w.heap.size) _).set 7 (.int .i64 a.lo) (.inl rfl)) (.inl (by omega))
        have qU9 := qU8.btt ((Btt.refl (w.heap.size) _).set 8 (.int .i64 a.hi) (.inl rfl)) (.inl (by omega))
        have qU10 := qU9.btt ((Btt.refl (w.heap.size + 1) _).set 0 (.int .i64 ((z : Nat) : Int)) (.inl rfl)) (.inl (by omega))
        have qU11 := qU10.btt ((Btt.refl (w.heap.size + 1 + 1) _).set 0 (.int .i64 0) (.inl rfl)) (.inl (by omega))
        have qU := (qU11.mono (G := fun k => w.heap.size ≤ k) fun g hg _ => by omega).on (Below.refl _ _).drew
        have q0 := (((((((((((h0).set 0 (.int .i64 a.kind)).set 1 (.string (mkS a.text))).set 2 (.int .u64 ((wd a.set 0 : Nat) : Int))).set 3 (.int .u64 ((wd a.set 1 : Nat) : Int))).set 4 (.int .u64 ((wd a.set 2 : Nat) : Int))).set 5 (.int .u64 ((wd a.set 3 : Nat) : Int))).set 6 (.slice ao a.parts.length cap)).set 7 (.int .i64 a.lo)).set 8 (.int .i64 a.hi)).other ⟨w.heap.size + 1, 0, none⟩ (.int .i64 ((z : Nat) : Int)) (by simp)).other ⟨w.heap.size + 1 + 1, 0, none⟩ (.int .i64 0) (by simp; omega)
        have q1 := (((((((((((h1).other ⟨w.heap.size, 0, none⟩ (.int .i64 a.kind) (by simp; done)).other ⟨w.heap.size, 1, none⟩ (.string (mkS a.text)) (by simp; done)).other ⟨w.heap.size, 2, none⟩ (.int .u64 ((wd a.set 0 : Nat) : Int)) (by simp; done)).other ⟨w.heap.size, 3, none⟩ (.int .u64 ((wd a.set 1 : Nat) : Int)) (by simp; done)).other ⟨w.heap.size, 4, none⟩ (.int .u64 ((wd a.set 2 : Nat) : Int)) (by simp; done)).other ⟨w.heap.size, 5, none⟩ (.int .u64 ((wd a.set 3 : Nat) : Int)) (by simp; done)).other ⟨w.heap.size, 6, none⟩ (.slice ao a.parts.length cap) (by simp; done)).other ⟨w.heap.size, 7, none⟩ (.int .i64 a.lo) (by simp; done)).other ⟨w.heap.size, 8, none⟩ (.int .i64 a.hi) (by simp; done)).set 0 (.int .i64 ((z : Nat) : Int))).other ⟨w.heap.size + 1 + 1, 0, none⟩ (.int .i64 0) (by simp)
        have q2 := (((((((((((h2).other ⟨w.heap.size, 0, none⟩ (.int .i64 a.kind) (by simp; omega)).other ⟨w.heap.size, 1, none⟩ (.string (mkS a.text)) (by simp; omega)).other ⟨w.heap.size, 2, none⟩ (.int .u64 ((wd a.set 0 : Nat) : Int)) (by simp; omega)).other ⟨w.heap.size, 3, none⟩ (.int .u64 ((wd a.set 1 : Nat) : Int)) (by simp; omega)).other ⟨w.heap.size, 4, none⟩ (.int .u64 ((wd a.set 2 : Nat) : Int)) (by simp; omega)).other ⟨w.heap.size, 5, none⟩ (.int .u64 ((wd a.set 3 : Nat) : Int)) (by simp; omega)).other ⟨w.heap.size, 6, none⟩ (.slice ao a.parts.length cap) (by simp; omega)).other ⟨w.heap.size, 7, none⟩ (.int .i64 a.lo) (by simp; omega)).other ⟨w.heap.size, 8, none⟩ (.int .i64 a.hi) (by simp; omega)).other ⟨w.heap.size + 1, 0, none⟩ (.int .i64 ((z : Nat) : Int)) (by simp)).set 0 (.int .i64 0)
        have qB := (((((((((((hB2).setCell (p := ⟨w.heap.size, 0, none⟩) (Nat.le_refl _) (.int .i64 a.kind)).setCell (p := ⟨w.heap.size, 1, none⟩) (Nat.le_refl _) (.string (mkS a.text))).setCell (p := ⟨w.heap.size, 2, none⟩) (Nat.le_refl _) (.int .u64 ((wd a.set 0 : Nat) : Int))).setCell (p := ⟨w.heap.size, 3, none⟩) (Nat.le_refl _) (.int .u64 ((wd a.set 1 : Nat) : Int))).setCell (p := ⟨w.heap.size, 4, none⟩) (Nat.le_refl _) (.int .u64 ((wd a.set 2 : Nat) : Int))).setCell (p := ⟨w.heap.size, 5, none⟩) (Nat.le_refl _) (.int .u64 ((wd a.set 3 : Nat) : Int))).setCell (p := ⟨w.heap.size, 6, none⟩) (Nat.le_refl _) (.slice ao a.parts.length cap)).setCell (p := ⟨w.heap.size, 7, none⟩) (Nat.le_refl _) (.int .i64 a.lo)).setCell (p := ⟨w.heap.size, 8, none⟩) (Nat.le_refl _) (.int .i64 a.hi)).setCell (p := ⟨w.heap.size + 1, 0, none⟩) (by simp) (.int .i64 ((z : Nat) : Int))).setCell (p := ⟨w.heap.size + 1 + 1, 0, none⟩) (by simp; omega) (.int .i64 0)
        simp only [List.setIfInBounds_toArray, List.set_cons_zero, List.set_cons_succ] at q0 q1 q2
        clear h0 h1 h2 hB2
        go_wp2
        refine leaves_cons (f := 21) (args := #[.pointer (some ⟨w.heap.size, 0, none⟩), .pointer (some ⟨w.heap.size + 1, 0, none⟩), .pointer (some ⟨w.heap.size + 1 + 1, 0, none⟩)]) (by simp) (by simp [go_sem]) ?_
        refine (idle_re _ _ _ _).mono ?_
        rintro e u' w12 ⟨rfl, rfl, rfl⟩
        refine ⟨_, results3 rfl rfl rfl rfl (load_re _ _ _ q0.drew rfl) q1.drew q2.drew, qB.drew, ?_⟩
        simp only
        rw [hem]
        exact ⟨ao, cap, rfl, qU⟩
end Go.Proofs.Ytbiempopfmpohaa
