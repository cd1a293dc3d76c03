/-
  A set, written as one. Conditions: the table of math/bits lies as it is laid.
-/
import Derived.Test.YtgckhkdjjmeboaaDoorLexText
import Derived.Test.YtgckhkdjjmeboaaDoorSetRowsC
import Derived.Test.YtgckhkdjjmeboaaDoorSetOps
namespace Go.Proofs.YtgckhkdjjmeboaaDoor
open Go.RowKit

theorem size_pair : (Tryd.prog.info? 47).map (·.size) = some 2 := by kernel_rfl
/-- A row stored into a block of its own: what has become of the world. -/
theorem wp_pair {ops : Array Oper} {rest : List Oper} {op : Oper} {a : Act} {w : World} {Q : Exit → Act → World → Prop} (hg : op.guard = none) (x y : Operand) (ho : op.op = .store 47 x y) (B : Nat) (m n : Int) (cs : Array Value)
    (hx : a.eval x = .pointer (some ⟨B, 0, none⟩)) (hy : a.eval y = .agg #[.int .u8 m, .int .u8 n]) (hK : Blk w B 47 cs) (h2 : cs.size = 2)
    (h : ∀ w', Blk w' B 47 #[.int .u8 m, .int .u8 n] → (∀ (W0 : World) (k : Nat), k ≤ B → Below k W0 w → Below k W0 w') → wpList Tryd.prog ops Q rest (a.put op.dst undef) w') : wpList Tryd.prog ops Q (op :: rest) a w := by
  refine wpList_store_row hg 47 x y ho B #[.int .u8 m, .int .u8 n] hx hy 47 cs hK (by rw [size_pair]; rfl) (by rw [h2]; rfl) (by simp [Value.oneCell']) (h _ (setRow_heap _ _ _ _ _ _ hK) (fun W0 k hn hb => ?_))
  refine ⟨hb.os, hb.tape, hb.output, by simpa [World.setRow] using hb.size, fun k hk => ?_⟩
  rw [← hb.block k hk]
  simp [World.setRow, Array.getElem?_modify, show B ≠ k by omega]
/-- Two own rows lie apart. -/
def Apart (v vr : Value) : Prop := ∀ g, v.ownBlock = some g → vr.ownBlock ≠ some g
theorem Apart.keep {W W' : World} {v vr : Value} (hs : Apart v vr) (hg : W.grownBy W' v.ownBlock) {base size n : Nat} {e : TypeId} {xs : List Value} (h : W.ownsRow base e size vr n xs) : W'.ownsRow base e size vr n xs := by
  refine h.kept hg ?_
  cases hv : vr.ownBlock with
  | none => exact .inl rfl
  | some g => exact .inr fun e => hs g e.symm hv
theorem Apart.step {W : World} {v v' vr : Value} (hs : Apart v vr) (hp : Placed W v v') {base size n : Nat} {e : TypeId} {xs : List Value} (h : W.ownsRow base e size vr n xs) : Apart v' vr := by
  intro g hg hr
  rcases hp with hp | ⟨k, hp, hk⟩
  · exact hs g (hp.symm.trans hg) hr
  · have h1 := (h.lt g hr).2
    have := Option.some.inj (hp.symm.trans hg)
    omega
theorem blk_keep {W W' : World} {B : Nat} {t : TypeId} {vs : Array Value} {v : Value} (h : Blk W B t vs) (hg : W.grownBy W' v.ownBlock) (hne : v.ownBlock ≠ some B) : Blk W' B t vs := (hg.block B h.lt fun e => hne e.symm).trans h
theorem own_not {W : World} {base size n B : Nat} {e : TypeId} {v : Value} {xs : List Value} (h : W.ownsRow base e size v n xs) (hB : W.heap.size ≤ B) : v.ownBlock ≠ some B := by
  intro e
  have := (h.lt B e).2
  omega
theorem placed_not {W : World} {v v' : Value} {B : Nat} (hp : Placed W v v') (hv : v.ownBlock ≠ some B) (hB : B < W.heap.size) : v'.ownBlock ≠ some B := by
  rcases hp with hp | ⟨k, hp, hk⟩
  · rw [hp]; exact hv
  · rw [hp]; intro e; have := Option.some.inj e; omega
theorem lit_ne {b B n c : Nat} (h : b ≠ B) : (Value.slice (some ⟨b, 0, none⟩) n c).ownBlock ≠ some B := fun e => h (Option.some.inj e)
theorem lit_le {b B n c : Nat} (h : B ≤ b) : ∀ k, (Value.slice (some ⟨b, 0, none⟩) n c).ownBlock = some k → B ≤ k := fun k hk => by
  have e : b = k := Option.some.inj hk
  omega
theorem cnt_size (S : Nat → Bool) : sz S = cnt S 256 := rfl

theorem owns_store {W W' : World} {base size n b : Nat} {e : TypeId} {v : Value} {xs : List Value} (h : W.ownsRow base e size v n xs) (hko : ∀ (B' : Nat) (t : TypeId) (vs : Array Value), B' ≠ b → Blk W B' t vs → Blk W' B' t vs) (hne : ∀ k, v.ownBlock = some k → k ≠ b) : W'.ownsRow base e size v n xs := by
  obtain ⟨h1, h2⟩ := h
  refine ⟨h1, ?_⟩
  rcases h2 with h0 | ⟨g, cap, cur, rfl, hb, hg, rest⟩
  · exact .inl h0
  · exact .inr ⟨g, cap, cur, rfl, hb, hko g e cur (hne g rfl) hg, rest⟩

set_option maxRecDepth 100000 in
set_option maxHeartbeats 4000000 in
theorem lset_big (S : Nat → Bool) (hc : 128 < cnt S 256) (w : World) (hT : Tab w) :
    Calls Tryd.prog 8 #[sv S] w fun e w' => e = .returned (.string (mkS (setW S))) ∧ Below w.heap.size w w' := by
  obtain ⟨ii, hi, hz0, hz1, hz2⟩ := info_parts info_u8t
  have hS0 := Blk.new w 24 (cells4 S)
  have hB0 := bal0 w (.cells (cells4 S) 24)
  have hS1 : Blk ((w.alloc (.cells (cells4 S) 24)).alloc (.cells #[.int .u8 91] 5)) w.heap.size 24 (cells4 S) := hS0.alloc _
  have hB1 : Below w.heap.size w ((w.alloc (.cells (cells4 S) 24)).alloc (.cells #[.int .u8 91] 5)) := bal hB0 _
  have hown1 : ((w.alloc (.cells (cells4 S) 24)).alloc (.cells #[.int .u8 91] 5)).ownsRow (w.heap.size + 1) 5 1 (.slice (some ⟨w.heap.size + 1, 0, none⟩) 1 1) 1 [.int .u8 91] := by
    have := World.ownsRow_lit (base := w.heap.size + 1) (e := 5) (size := 1) (w.alloc (.cells (cells4 S) 24)) #[.int .u8 91] 1 (by rw [World.size_alloc]; exact Nat.le_refl _) (by unfold maxLen; omega) rfl
    rw [World.size_alloc] at this
    exact this
  obtain ⟨s0, s1, s2, s3⟩ := hS1.cells
  have HSZ := Lib.hid (fun W => size_to S W)
  rw [cnt_size] at HSZ
  have hci : (128 : Int) < ((cnt S 256 : Nat) : Int) := by omega
  have HNG := Lib.hid (fun W => neg_to S W)
  have HRW := Lib.hid (fun W h => setRows_any (neg S) W h)
  have HRB := Lib.hid (rows_bound (neg S))
  have hrl := rowsOf_length (neg S)
  have HST := Lib.hid (show setW S = [91, 94] ++ rowsW (rowsOf (neg S)) ++ [93] from if_pos hc)
  clear hc hS0 hB0
  go_enter Tryd.func8, Tryd.ntmps8
  go_wp2_with fail
  refine (HSZ.out _).mono ?_
  rintro e w2 ⟨rfl, hb2⟩
  have hB2 := btr hB1 hb2
  have hS2 := hS1.below hb2 hS1.lt
  have hown2 := owns_keep hown1 hb2
  have hsz2 : w.heap.size + 1 < w2.heap.size := (hown2.lt _ rfl).2
  clear s0 s1 s2 s3 hb2 hS1 hB1 hown1
  obtain ⟨s0, s1, s2, s3⟩ := hS2.cells
  generalize cnt S 256 = cz at *
  have hown2' : w2.ownsRow (w.heap.size + 1) 5 1 (.slice (some ⟨w.heap.size + 1, 0, none⟩) 1 1) 1 (u8Cells [91]) := hown2
  go_wp2_with (first | (at_builtin; refine wpList_append_own_at _ rfl _ _ 40 rfl (w.heap.size + 1) 5 ii (.int .u8 0) 1 1 Tryd.underlying40 hi hz0 hz1 hz2 rfl (by decide) _ _ _ rfl (hown2'.alloc _) ⟨w2.heap.size, 0, none⟩ 1 1 [.int .u8 94] rfl rfl (cell_one_new _ _ _) (by simp [Value.oneCell']) (by unfold maxLen; omega) (by omega) (by have := hsz2; simp; omega) ?_; intro v3 w3 hown3 hgx _ hpx; have hg3 := grown_pre _ hgx; have hp3 := Placed.of hpx; clear hgx hpx; rw [show u8Cells [91] ++ [Value.int .u8 94] = u8Cells ([91] ++ [94]) by simp [u8Cells]] at hown3; obtain ⟨vo3, vc3, rfl, hvc3⟩ := owns_form hown3; have hg3' : w2.grownBy w3 (Value.slice (some ⟨w.heap.size + 1, 0, none⟩) 1 1).ownBlock := hg3; have hS3 := blk_keep hS2 hg3' (lit_ne (by omega)); have hs3 := hg3.size; have hB3 := hB2.grown hg3' (by omega) (lit_le (by omega)); obtain ⟨t0, t1, t2, t3⟩ := hS3.cells) | fail)
  refine (HNG.out _).mono ?_
  rintro e w4 ⟨rfl, hb4⟩
  have hB4 := btr hB3 hb4
  have hS4 := hS3.below hb4 hS3.lt
  have hown4 := owns_keep hown3 hb4
  have hsz4 : w.heap.size + 1 < w4.heap.size := by have := hb4.size; omega
  have hn3 : ∀ k, (Value.slice vo3 2 vc3).ownBlock = some k → w.heap.size + 1 ≤ k := fun k hk => (hown3.lt k hk).1
  clear s0 s1 s2 s3 t0 t1 t2 t3 hb4 hS2 hB2 hown2 hown2' hS3 hB3 hg3 hg3' hp3
  go_wp2_with (first | (refine wp_set rfl _ _ rfl w.heap.size (neg S) (cells4 S) rfl rfl hS4 rfl ?_; intro w5 hS5 hkp5 hko5; have hB5 := hkp5 _ _ (Nat.le_refl _) hB4; have hown5 : w5.ownsRow (w.heap.size + 1) 5 1 (.slice vo3 2 vc3) 2 (u8Cells [91, 94]) := owns_store hown4 hko5 (by intro k hk; have := hn3 k hk; omega); have hsz5 : w.heap.size + 1 < w5.heap.size := Nat.lt_of_lt_of_le hsz4 (hkp5 w4 0 (Nat.zero_le _) (Below.refl 0 w4)).size; obtain ⟨s0, s1, s2, s3⟩ := hS5.cells) | fail)
  refine (HRW.out _ (hT.below' hB5)).mono ?_
  rintro e w6 ⟨vr, rfl, hrows, hb6⟩
  have hB6 := btr hB5 hb6
  have hown6 := owns_keep hown5 hb6
  have hap6 : Apart (.slice vo3 2 vc3) vr := fun g h1 h2 => by
    have e1 := (hown5.lt g h1).2
    have e2 := (hrows.lt g h2).1
    omega
  have hsz6 : w.heap.size + 1 < w6.heap.size := Nat.lt_of_lt_of_le hsz5 hb6.size
  generalize w5.heap.size = base2 at hrows
  generalize rowsOf (neg S) = l at *
  obtain ⟨n, hn⟩ : ∃ n, l.length = n := ⟨_, rfl⟩
  have HN := Lib.hid hn
  rw [hn] at hrows hrl
  clear hn
  obtain ⟨ro, rc, rfl, hrc⟩ := owns_form hrows
  clear s0 s1 s2 s3 hB5 hS5 hown5 hown4 hB4 hS4 hb6
  go_wp2_with fail
  go_loopw [3, 18] (fun v i wr => ∃ (k : Nat) (bs : List UInt8), k ≤ n ∧ i = .int .i64 k ∧ bs.length ≤ 2 + 9 * k ∧ Hid (bs = [91, 94] ++ rowsW (l.take k)) ∧ wr.ownsRow (w.heap.size + 1) 5 1 v bs.length (u8Cells bs) ∧ wr.ownsRow base2 47 2 (.slice ro n rc) n (pairCells l) ∧ Apart v (.slice ro n rc) ∧ Below w.heap.size w wr ∧ w.heap.size + 1 < wr.heap.size)
    (fun _ i _ => n - (intOf i).toNat)
  case atStart => exact ⟨0, [91, 94], Nat.zero_le _, rfl, by simp, Lib.hid rfl, hown6, hrows, hap6, hB6, hsz6⟩
  case round =>
    clear hown6 hrows hap6 hB6 hsz6
    obtain ⟨k, bs, hk, rfl, hbl, HBS, hown, hrows, hap, hB, hsz⟩ := hrel
    have i0 : (0 : Int) ≤ (k : Int) := by omega
    obtain ⟨vo, vc, rfl, hvc⟩ := owns_form hown
    by_cases hlt : k < n
    · have hlti : (k : Int) < (n : Int) := by omega
      have hkl : k < l.length := by rw [HN.out]; exact hlt
      have hrb := HRB.out (l.getD k (0, 0)) (by rw [List.getD, List.getElem?_eq_getElem hkl]; exact List.getElem_mem _)
      have HSTEP := Lib.hid (rowsW_take l k hkl)
      obtain ⟨g, rfl⟩ : ∃ g, ro = some ⟨g, 0, none⟩ := by
        rcases hrows.2 with ⟨e, h0⟩ | ⟨g, c, cur, e, _⟩
        · omega
        · exact ⟨g, (Value.slice.inj e).1⟩
      have hp := pairCells_get l k hkl
      have c0 := (hrows.cellAt (k * 2) (by omega)).trans hp.1
      have c1 := (hrows.cellAt (k * 2 + 1) (by omega)).trans hp.2
      obtain ⟨r, hr⟩ : ∃ r, l.getD k (0, 0) = r := ⟨_, rfl⟩
      rw [hr] at hrb HSTEP c0 c1
      clear hp hr hkl
      rw [← ofNat_toNat8 (n := r.1) (by omega)] at c0
      rw [← ofNat_toNat8 (n := r.2) (by omega)] at c1
      have HNE := Lib.hid (fun e : (((UInt8.ofNat r.1).toNat : Nat) : Int) = (((UInt8.ofNat r.2).toNat : Nat) : Int) => show r.2 = r.1 by rw [ofNat_toNat8 (by omega), ofNat_toNat8 (by omega)] at e; omega)
      obtain ⟨x, hx⟩ : ∃ x, UInt8.ofNat r.1 = x := ⟨_, rfl⟩
      obtain ⟨y, hy⟩ : ∃ y, UInt8.ofNat r.2 = y := ⟨_, rfl⟩
      have HX := Lib.hid hx
      have HY := Lib.hid hy
      rw [hx] at c0 HNE
      rw [hy] at c1 HNE
      clear hx hy
      have hR1 := Blk.new wr 47 #[.int .u8 0, .int .u8 0]
      have hyl1 := byteL_len x
      have hyl2 := byteL_len y
      have hnR := own_not hown (Nat.le_refl _)
      have HW1 := Lib.hid (fun W (h : W.ownsRow (w.heap.size + 1) 5 1 (.slice vo bs.length vc) bs.length (u8Cells bs)) hb => write_any (w.heap.size + 1) bs _ x (by omega) W h hb)
      go_wp2_with (first | (refine wp_pair rfl _ _ rfl wr.heap.size ((x.toNat : Nat) : Int) ((y.toNat : Nat) : Int) _ rfl rfl hR1 rfl ?_; intro w1 hRb hkp1; have hb1 := hkp1 wr wr.heap.size (Nat.le_refl _) (bal0 wr _); have hB1 := btr hB hb1; have hown1 := owns_keep hown hb1; have hrows1 := owns_keep hrows hb1; have q0 := hRb.cell 0; have q1 := hRb.cell 1; have hs1 := hRb.lt; simp at q0 q1) | fail)
      refine (HW1.out _ hown1 (by omega)).mono ?_
      rintro e w2 ⟨v2, rfl, hown2, hg2, hp2⟩
      have hB2 := hB1.trans ((own_below hown1 (by omega) hg2).mono (by omega))
      have hrows2 := hap.keep hg2 hrows1
      have hap2 := hap.step hp2 hrows1
      have hR2 := blk_keep hRb hg2 hnR
      have hnR2 := placed_not hp2 hnR hs1
      have hs2 := hg2.size
      have d0 := hR2.cell 0
      have d1 := hR2.cell 1
      simp at d0 d1
      have hl2 : (bs ++ byteL x).length ≤ 6 + 9 * k := by rw [List.length_append]; omega
      obtain ⟨b2, hb2⟩ : ∃ b2, bs ++ byteL x = b2 := ⟨_, rfl⟩
      have HB2 := Lib.hid hb2
      rw [hb2] at hown2 hl2
      clear hb2
      obtain ⟨vo2, vc2, rfl, hvc2⟩ := owns_form hown2
      clear c0 c1 q0 q1 hRb hown1 hrows1 hB1 hown hrows hap hB hR1 hg2 hb1
      by_cases he : r.2 = r.1
      · have hd : (((x.toNat : Nat) : Int) != ((y.toNat : Nat) : Int)) = false := by rw [← HX.out, ← HY.out, he]; simp
        have HNX := Lib.hid (show b2 = [91, 94] ++ rowsW (l.take (k + 1)) by rw [← HB2.out, HSTEP.out, rowW_one he, HX.out, HBS.out, List.append_assoc])
        clear he
        go_wp2
        go_roundw
        case rel => exact ⟨k + 1, _, by omega, by go_num, by omega, HNX, hown2, hrows2, hap2, hB2, by omega⟩
        case measure => simp [intOf]; omega
      · have hne : ¬ ((x.toNat : Nat) : Int) = ((y.toNat : Nat) : Int) := fun e => he (HNE.out e)
        have hd : (((x.toNat : Nat) : Int) != ((y.toNat : Nat) : Int)) = true := by simpa using hne
        have HNX := Lib.hid (show b2 ++ [45] ++ byteL y = [91, 94] ++ rowsW (l.take (k + 1)) by rw [← HB2.out, HSTEP.out, rowW_two he, HX.out, HY.out, HBS.out]; simp)
        have HW2 := Lib.hid (fun W v (h : W.ownsRow (w.heap.size + 1) 5 1 v (b2 ++ [45]).length (u8Cells (b2 ++ [45]))) hb => write_any (w.heap.size + 1) (b2 ++ [45]) v y (by simp; omega) W h hb)
        clear he hne
        go_wp2_with (first | (at_builtin; refine wpList_append_own_at _ rfl _ _ 40 rfl (w.heap.size + 1) 5 ii (.int .u8 0) 1 1 Tryd.underlying40 hi hz0 hz1 hz2 rfl (by decide) _ _ _ rfl (hown2.alloc _) ⟨w2.heap.size, 0, none⟩ 1 1 [.int .u8 45] rfl rfl (cell_one_new _ _ _) (by simp [Value.oneCell']) (by unfold maxLen; omega) (by omega) (by have := hs2; simp; omega) ?_; intro v3 w3 hown3 hgx _ hpx; have hg3 := grown_pre _ hgx; have hp3 := Placed.of hpx; clear hgx hpx; rw [show u8Cells b2 ++ [Value.int .u8 45] = u8Cells (b2 ++ [45]) by simp [u8Cells]] at hown3; have hR3 := blk_keep hR2 hg3 hnR2; have e0 := hR3.cell 0; have e1 := hR3.cell 1; simp at e0 e1; have hs3 := hg3.size; have hB3 := hB2.trans ((own_below hown2 (by omega) hg3).mono (by omega)); have hrows3 := hap2.keep hg3 hrows2; have hap3 := hap2.step hp3 hrows2; obtain ⟨vo3, vc3, rfl, hvc3⟩ := owns_form hown3) | fail)
        have hown3' : w3.ownsRow (w.heap.size + 1) 5 1 (.slice vo3 (b2.length + 1) vc3) (b2 ++ [45]).length (u8Cells (b2 ++ [45])) := by rw [List.length_append]; exact hown3
        refine (HW2.out _ _ hown3' (by omega)).mono ?_
        rintro e w4 ⟨v4, rfl, hown4, hg4, hp4⟩
        have hB4 := hB3.trans ((own_below hown3' (by omega) hg4).mono (by omega))
        have hrows4 := hap3.keep hg4 hrows3
        have hap4 := hap3.step hp4 hrows3
        have hs4 := hg4.size
        go_wp2
        go_roundw
        case rel => exact ⟨k + 1, _, by omega, by go_num, by simp; omega, HNX, hown4, hrows4, hap4, hB4, by omega⟩
        case measure => simp [intOf]; omega
    · have hlti : ¬ (k : Int) < (n : Int) := by omega
      have HFI := Lib.hid (show mkS (setW S) = mkS (bs ++ [93]) by
        rw [HST.out, HBS.out, List.take_of_length_le (by rw [HN.out]; omega)])
      go_wp2_with (first | (at_builtin; refine wpList_append_own_at _ rfl _ _ 40 rfl (w.heap.size + 1) 5 ii (.int .u8 0) 1 1 Tryd.underlying40 hi hz0 hz1 hz2 rfl (by decide) _ _ _ rfl (hown.alloc _) ⟨wr.heap.size, 0, none⟩ 1 1 [.int .u8 93] rfl rfl (cell_one_new _ _ _) (by simp [Value.oneCell']) (by unfold maxLen; omega) (by omega) (by have := hsz; simp; omega) ?_; intro v3 w3 hown3 hgx _ hpx; have hg3 := grown_pre _ hgx; have hp3 := Placed.of hpx; clear hgx hpx; rw [show u8Cells bs ++ [Value.int .u8 93] = u8Cells (bs ++ [93]) by simp [u8Cells]] at hown3; have hB3 := hB.trans ((own_below hown (by omega) hg3).mono (by omega)); obtain ⟨vo3, vc3, rfl, hvc3⟩ := owns_form hown3; have hcv := conv_any hown3) | fail)
      go_ret
      exact ⟨by rw [HFI.out]; rfl, hB3⟩

set_option maxRecDepth 100000 in
set_option maxHeartbeats 4000000 in
theorem lset_small (S : Nat → Bool) (hc : ¬ 128 < cnt S 256) (w : World) (hT : Tab w) :
    Calls Tryd.prog 8 #[sv S] w fun e w' => e = .returned (.string (mkS (setW S))) ∧ Below w.heap.size w w' := by
  obtain ⟨ii, hi, hz0, hz1, hz2⟩ := info_parts info_u8t
  have hS0 := Blk.new w 24 (cells4 S)
  have hB0 := bal0 w (.cells (cells4 S) 24)
  have hS1 : Blk ((w.alloc (.cells (cells4 S) 24)).alloc (.cells #[.int .u8 91] 5)) w.heap.size 24 (cells4 S) := hS0.alloc _
  have hB1 : Below w.heap.size w ((w.alloc (.cells (cells4 S) 24)).alloc (.cells #[.int .u8 91] 5)) := bal hB0 _
  have hown1 : ((w.alloc (.cells (cells4 S) 24)).alloc (.cells #[.int .u8 91] 5)).ownsRow (w.heap.size + 1) 5 1 (.slice (some ⟨w.heap.size + 1, 0, none⟩) 1 1) 1 [.int .u8 91] := by
    have := World.ownsRow_lit (base := w.heap.size + 1) (e := 5) (size := 1) (w.alloc (.cells (cells4 S) 24)) #[.int .u8 91] 1 (by rw [World.size_alloc]; exact Nat.le_refl _) (by unfold maxLen; omega) rfl
    rw [World.size_alloc] at this
    exact this
  obtain ⟨s0, s1, s2, s3⟩ := hS1.cells
  have HSZ := Lib.hid (fun W => size_to S W)
  rw [cnt_size] at HSZ
  have hci : ¬ (128 : Int) < ((cnt S 256 : Nat) : Int) := by omega
  have HRW := Lib.hid (fun W h => setRows_any S W h)
  have HRB := Lib.hid (rows_bound S)
  have hrl := rowsOf_length S
  have HST := Lib.hid (show setW S = [91] ++ rowsW (rowsOf S) ++ [93] from if_neg hc)
  clear hc hS0 hB0
  go_enter Tryd.func8, Tryd.ntmps8
  go_wp2_with fail
  refine (HSZ.out _).mono ?_
  rintro e w2 ⟨rfl, hb2⟩
  have hB2 := btr hB1 hb2
  have hS2 := hS1.below hb2 hS1.lt
  have hown2 := owns_keep hown1 hb2
  have hsz2 : w.heap.size + 1 < w2.heap.size := (hown2.lt _ rfl).2
  clear s0 s1 s2 s3 hb2 hS1 hB1 hown1
  obtain ⟨s0, s1, s2, s3⟩ := hS2.cells
  generalize cnt S 256 = cz at *
  have hB5 := hB2
  have hown5 : w2.ownsRow (w.heap.size + 1) 5 1 (.slice (some ⟨w.heap.size + 1, 0, none⟩) 1 1) 1 (u8Cells [91]) := hown2
  have hsz5 := hsz2
  go_wp2_with fail
  refine (HRW.out _ (hT.below' hB5)).mono ?_
  rintro e w6 ⟨vr, rfl, hrows, hb6⟩
  have hB6 := btr hB5 hb6
  have hown6 := owns_keep hown5 hb6
  have hap6 : Apart (.slice (some ⟨w.heap.size + 1, 0, none⟩) 1 1) vr := fun g h1 h2 => by
    have e1 := (hown5.lt g h1).2
    have e2 := (hrows.lt g h2).1
    omega
  have hsz6 : w.heap.size + 1 < w6.heap.size := Nat.lt_of_lt_of_le hsz5 hb6.size
  generalize w2.heap.size = base2 at hrows
  generalize rowsOf S = l at *
  obtain ⟨n, hn⟩ : ∃ n, l.length = n := ⟨_, rfl⟩
  have HN := Lib.hid hn
  rw [hn] at hrows hrl
  clear hn
  obtain ⟨ro, rc, rfl, hrc⟩ := owns_form hrows
  clear s0 s1 s2 s3 hB2 hB5 hS2 hown5 hown2 hb6
  go_wp2_with fail
  go_loopw [3, 18] (fun v i wr => ∃ (k : Nat) (bs : List UInt8), k ≤ n ∧ i = .int .i64 k ∧ bs.length ≤ 2 + 9 * k ∧ Hid (bs = [91] ++ rowsW (l.take k)) ∧ wr.ownsRow (w.heap.size + 1) 5 1 v bs.length (u8Cells bs) ∧ wr.ownsRow base2 47 2 (.slice ro n rc) n (pairCells l) ∧ Apart v (.slice ro n rc) ∧ Below w.heap.size w wr ∧ w.heap.size + 1 < wr.heap.size)
    (fun _ i _ => n - (intOf i).toNat)
  case atStart => exact ⟨0, [91], Nat.zero_le _, rfl, by simp, Lib.hid rfl, hown6, hrows, hap6, hB6, hsz6⟩
  case round =>
    clear hown6 hrows hap6 hB6 hsz6
    obtain ⟨k, bs, hk, rfl, hbl, HBS, hown, hrows, hap, hB, hsz⟩ := hrel
    have i0 : (0 : Int) ≤ (k : Int) := by omega
    obtain ⟨vo, vc, rfl, hvc⟩ := owns_form hown
    by_cases hlt : k < n
    · have hlti : (k : Int) < (n : Int) := by omega
      have hkl : k < l.length := by rw [HN.out]; exact hlt
      have hrb := HRB.out (l.getD k (0, 0)) (by rw [List.getD, List.getElem?_eq_getElem hkl]; exact List.getElem_mem _)
      have HSTEP := Lib.hid (rowsW_take l k hkl)
      obtain ⟨g, rfl⟩ : ∃ g, ro = some ⟨g, 0, none⟩ := by
        rcases hrows.2 with ⟨e, h0⟩ | ⟨g, c, cur, e, _⟩
        · omega
        · exact ⟨g, (Value.slice.inj e).1⟩
      have hp := pairCells_get l k hkl
      have c0 := (hrows.cellAt (k * 2) (by omega)).trans hp.1
      have c1 := (hrows.cellAt (k * 2 + 1) (by omega)).trans hp.2
      obtain ⟨r, hr⟩ : ∃ r, l.getD k (0, 0) = r := ⟨_, rfl⟩
      rw [hr] at hrb HSTEP c0 c1
      clear hp hr hkl
      rw [← ofNat_toNat8 (n := r.1) (by omega)] at c0
      rw [← ofNat_toNat8 (n := r.2) (by omega)] at c1
      have HNE := Lib.hid (fun e : (((UInt8.ofNat r.1).toNat : Nat) : Int) = (((UInt8.ofNat r.2).toNat : Nat) : Int) => show r.2 = r.1 by rw [ofNat_toNat8 (by omega), ofNat_toNat8 (by omega)] at e; omega)
      obtain ⟨x, hx⟩ : ∃ x, UInt8.ofNat r.1 = x := ⟨_, rfl⟩
      obtain ⟨y, hy⟩ : ∃ y, UInt8.ofNat r.2 = y := ⟨_, rfl⟩
      have HX := Lib.hid hx
      have HY := Lib.hid hy
      rw [hx] at c0 HNE
      rw [hy] at c1 HNE
      clear hx hy
      have hR1 := Blk.new wr 47 #[.int .u8 0, .int .u8 0]
      have hyl1 := byteL_len x
      have hyl2 := byteL_len y
      have hnR := own_not hown (Nat.le_refl _)
      have HW1 := Lib.hid (fun W (h : W.ownsRow (w.heap.size + 1) 5 1 (.slice vo bs.length vc) bs.length (u8Cells bs)) hb => write_any (w.heap.size + 1) bs _ x (by omega) W h hb)
      go_wp2_with (first | (refine wp_pair rfl _ _ rfl wr.heap.size ((x.toNat : Nat) : Int) ((y.toNat : Nat) : Int) _ rfl rfl hR1 rfl ?_; intro w1 hRb hkp1; have hb1 := hkp1 wr wr.heap.size (Nat.le_refl _) (bal0 wr _); have hB1 := btr hB hb1; have hown1 := owns_keep hown hb1; have hrows1 := owns_keep hrows hb1; have q0 := hRb.cell 0; have q1 := hRb.cell 1; have hs1 := hRb.lt; simp at q0 q1) | fail)
      refine (HW1.out _ hown1 (by omega)).mono ?_
      rintro e w2 ⟨v2, rfl, hown2, hg2, hp2⟩
      have hB2 := hB1.trans ((own_below hown1 (by omega) hg2).mono (by omega))
      have hrows2 := hap.keep hg2 hrows1
      have hap2 := hap.step hp2 hrows1
      have hR2 := blk_keep hRb hg2 hnR
      have hnR2 := placed_not hp2 hnR hs1
      have hs2 := hg2.size
      have d0 := hR2.cell 0
      have d1 := hR2.cell 1
      simp at d0 d1
      have hl2 : (bs ++ byteL x).length ≤ 6 + 9 * k := by rw [List.length_append]; omega
      obtain ⟨b2, hb2⟩ : ∃ b2, bs ++ byteL x = b2 := ⟨_, rfl⟩
      have HB2 := Lib.hid hb2
      rw [hb2] at hown2 hl2
      clear hb2
      obtain ⟨vo2, vc2, rfl, hvc2⟩ := owns_form hown2
      clear c0 c1 q0 q1 hRb hown1 hrows1 hB1 hown hrows hap hB hR1 hg2 hb1
      by_cases he : r.2 = r.1
      · have hd : (((x.toNat : Nat) : Int) != ((y.toNat : Nat) : Int)) = false := by rw [← HX.out, ← HY.out, he]; simp
        have HNX := Lib.hid (show b2 = [91] ++ rowsW (l.take (k + 1)) by rw [← HB2.out, HSTEP.out, rowW_one he, HX.out, HBS.out, List.append_assoc])
        clear he
        go_wp2
        go_roundw
        case rel => exact ⟨k + 1, _, by omega, by go_num, by omega, HNX, hown2, hrows2, hap2, hB2, by omega⟩
        case measure => simp [intOf]; omega
      · have hne : ¬ ((x.toNat : Nat) : Int) = ((y.toNat : Nat) : Int) := fun e => he (HNE.out e)
        have hd : (((x.toNat : Nat) : Int) != ((y.toNat : Nat) : Int)) = true := by simpa using hne
        have HNX := Lib.hid (show b2 ++ [45] ++ byteL y = [91] ++ rowsW (l.take (k + 1)) by rw [← HB2.out, HSTEP.out, rowW_two he, HX.out, HY.out, HBS.out]; simp)
        have HW2 := Lib.hid (fun W v (h : W.ownsRow (w.heap.size + 1) 5 1 v (b2 ++ [45]).length (u8Cells (b2 ++ [45]))) hb => write_any (w.heap.size + 1) (b2 ++ [45]) v y (by simp; omega) W h hb)
        clear he hne
        go_wp2_with (first | (at_builtin; refine wpList_append_own_at _ rfl _ _ 40 rfl (w.heap.size + 1) 5 ii (.int .u8 0) 1 1 Tryd.underlying40 hi hz0 hz1 hz2 rfl (by decide) _ _ _ rfl (hown2.alloc _) ⟨w2.heap.size, 0, none⟩ 1 1 [.int .u8 45] rfl rfl (cell_one_new _ _ _) (by simp [Value.oneCell']) (by unfold maxLen; omega) (by omega) (by have := hs2; simp; omega) ?_; intro v3 w3 hown3 hgx _ hpx; have hg3 := grown_pre _ hgx; have hp3 := Placed.of hpx; clear hgx hpx; rw [show u8Cells b2 ++ [Value.int .u8 45] = u8Cells (b2 ++ [45]) by simp [u8Cells]] at hown3; have hR3 := blk_keep hR2 hg3 hnR2; have e0 := hR3.cell 0; have e1 := hR3.cell 1; simp at e0 e1; have hs3 := hg3.size; have hB3 := hB2.trans ((own_below hown2 (by omega) hg3).mono (by omega)); have hrows3 := hap2.keep hg3 hrows2; have hap3 := hap2.step hp3 hrows2; obtain ⟨vo3, vc3, rfl, hvc3⟩ := owns_form hown3) | fail)
        have hown3' : w3.ownsRow (w.heap.size + 1) 5 1 (.slice vo3 (b2.length + 1) vc3) (b2 ++ [45]).length (u8Cells (b2 ++ [45])) := by rw [List.length_append]; exact hown3
        refine (HW2.out _ _ hown3' (by omega)).mono ?_
        rintro e w4 ⟨v4, rfl, hown4, hg4, hp4⟩
        have hB4 := hB3.trans ((own_below hown3' (by omega) hg4).mono (by omega))
        have hrows4 := hap3.keep hg4 hrows3
        have hap4 := hap3.step hp4 hrows3
        have hs4 := hg4.size
        go_wp2
        go_roundw
        case rel => exact ⟨k + 1, _, by omega, by go_num, by simp; omega, HNX, hown4, hrows4, hap4, hB4, by omega⟩
        case measure => simp [intOf]; omega
    · have hlti : ¬ (k : Int) < (n : Int) := by omega
      have HFI := Lib.hid (show mkS (setW S) = mkS (bs ++ [93]) by
        rw [HST.out, HBS.out, List.take_of_length_le (by rw [HN.out]; omega)])
      go_wp2_with (first | (at_builtin; refine wpList_append_own_at _ rfl _ _ 40 rfl (w.heap.size + 1) 5 ii (.int .u8 0) 1 1 Tryd.underlying40 hi hz0 hz1 hz2 rfl (by decide) _ _ _ rfl (hown.alloc _) ⟨wr.heap.size, 0, none⟩ 1 1 [.int .u8 93] rfl rfl (cell_one_new _ _ _) (by simp [Value.oneCell']) (by unfold maxLen; omega) (by omega) (by have := hsz; simp; omega) ?_; intro v3 w3 hown3 hgx _ hpx; have hg3 := grown_pre _ hgx; have hp3 := Placed.of hpx; clear hgx hpx; rw [show u8Cells bs ++ [Value.int .u8 93] = u8Cells (bs ++ [93]) by simp [u8Cells]] at hown3; have hB3 := hB.trans ((own_below hown (by omega) hg3).mono (by omega)); obtain ⟨vo3, vc3, rfl, hvc3⟩ := owns_form hown3; have hcv := conv_any hown3) | fail)
      go_ret
      exact ⟨by rw [HFI.out]; rfl, hB3⟩

theorem lset_any (S : Nat → Bool) (w : World) (hT : Tab w) :
    Calls Tryd.prog 8 #[sv S] w fun e w' => e = .returned (.string (mkS (setW S))) ∧ Below w.heap.size w w' := by
  by_cases h : 128 < cnt S 256
  · exact lset_big S h w hT
  · exact lset_small S h w hT
end Go.Proofs.YtgckhkdjjmeboaaDoor
