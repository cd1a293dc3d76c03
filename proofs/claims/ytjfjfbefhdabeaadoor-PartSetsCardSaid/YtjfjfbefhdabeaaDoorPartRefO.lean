/-
  The walk of the reference's Over: as package part's; nothing that was there before the call has changed. Conditions: the sets lie in memory as a slice, fewer than 2^40 of them.
-/
import Derived.Test.YtjfjfbefhdabeaaDoorPartOver
import Derived.Test.YtjfjfbefhdabeaaDoorPartRight
import Derived.Test.YtjfjfbefhdabeaaDoorPartIsP
import Derived.Deep.RegionHeld3
import Derived.Deep.CutRange
namespace Go.Proofs.YtjfjfbefhdabeaaDoor
open Go.RowKit

theorem Pt.part_some {P : List (Nat → Bool)} {c : Nat → Nat} (h : Pt P c) {k : Nat} (hk : k < P.length) {S : Nat → Bool} (e : eqs (cand (P.getD k no) S) (P.getD k no) = true) : eqs (cand (P.getD k no) S) no = false := by
  obtain ⟨b, hb, hcb⟩ := nx_hit c 256 h.rgs k (by rw [← h.len]; exact hk)
  have h1 := h.mem b hb
  rw [hcb] at h1
  have h2 := (eqs_iff _ _).1 e b hb
  rw [Bool.eq_false_iff, ne_eq, eqs_iff]
  intro h3
  have := h3 b hb
  rw [h2, h1] at this
  cases this

theorem owns_drewN {w : World} {base size n : Nat} {e : TypeId} {v : Value} {xs : List Value} (h : w.ownsRow base e size v n xs) (q : Nat) : (w.drewN q).ownsRow base e size v n xs := h
theorem Blk.drewN {W : World} {B : Nat} {t : TypeId} {vs : Array Value} (h : Blk W B t vs) (q : Nat) : Blk (W.drewN q) B t vs := h
theorem below_put4g0 {w0 w : World} {n g : Nat} {u0 u1 u2 u3 : Value} (h : Below n w0 w) (hg : n ≤ g) : Below n w0 ((((w.setCell ⟨g, 0, none⟩ u0).setCell ⟨g, 1, none⟩ u1).setCell ⟨g, 2, none⟩ u2).setCell ⟨g, 3, none⟩ u3) :=
  (((h.setCell (p := ⟨g, _, none⟩) hg _).setCell (p := ⟨g, _, none⟩) hg _).setCell (p := ⟨g, _, none⟩) hg _).setCell (p := ⟨g, _, none⟩) hg _
theorem refover_bad (ao : Option Addr) (len cap : Nat) (P : List (Nat → Bool)) (S : Nat → Bool) (hl : P.length = len) (hlen : len ≤ 1099511627776) (w : World) (hS : SAt w ao P w.heap.size) (hp : ¬ IsPart P) :
    Calls Tryd.prog 18 #[.slice ao len cap, sv S] w fun e w' => e = .returned (.tuple #[.slice none 0 0, .int .i64 1]) ∧ Below w.heap.size w w' := by
  have HL := Lib.hid hl
  have hf := partB_f hp
  have hB0 := bal (Below.refl w.heap.size w) (.cells (cells4 S) 35)
  have HB := Lib.hid hB0
  have HS := Lib.hid ((hS.below hB0 (Nat.le_refl _)).mono hB0.size)
  clear hS hp hl hB0
  go_enter Tryd.func18, Tryd.ntmps18
  go_wp2_with fail
  refine (right_any ao len cap P HL.out hlen _ HS.out).mono ?_
  rw [hf]
  rintro e w1 ⟨rfl, hb1⟩
  have hB1 := btr HB.out hb1
  clear hb1
  go_wp2
  go_ret2
  exact ⟨rfl, hB1⟩

set_option maxRecDepth 100000 in
set_option maxHeartbeats 1000000 in
theorem refover_any (ao : Option Addr) (len cap : Nat) (P : List (Nat → Bool)) (S : Nat → Bool) (hl : P.length = len) (hlen : len ≤ 1099511627776) (w : World) (hS : SAt w ao P w.heap.size) (hp : IsPart P) :
    Calls Tryd.prog 18 #[.slice ao len cap, sv S] w fun e w' => ∃ v, e = .returned v ∧ ((∃ l bo bc, ov P S = some l ∧ v = .tuple #[.slice bo l.length bc, .int .i64 0] ∧ IAt w' bo (l.map fun x : Nat => (x : Int)) w'.heap.size) ∨ (ov P S = none ∧ v = .tuple #[.slice none 0 0, .int .i64 1])) ∧ Below w.heap.size w w' := by
  obtain ⟨i0, hi, hz0, hz1, hz2⟩ := info_parts info_int
  have HL := Lib.hid hl
  have HSW := Lib.hid hS
  have HP := Lib.hid hp
  have ht := (partB_iff P).2 hp
  have hgd := guard25
  have hB0 := bal (Below.refl w.heap.size w) (.cells (cells4 S) 35)
  have HB := Lib.hid hB0
  have HS := Lib.hid ((hS.below hB0 (Nat.le_refl _)).mono hB0.size)
  have hS0 := Blk.new w 35 (cells4 S)
  clear hS hl hB0 hp
  go_enter Tryd.func18, Tryd.ntmps18
  go_wp2_with fail
  refine (right_any ao len cap P HL.out hlen _ HS.out).mono ?_
  rw [ht]
  rintro e w0 ⟨rfl, hb0⟩
  have HB0 := Lib.hid (btr HB.out hb0)
  have HS0 := Lib.hid (hS0.below hb0 hS0.lt)
  clear hb0 ht hS0
  go_wp2_with fail
  go_loopw [6, 7] (fun v i wr => ∃ (k : Nat) (l : List Nat), k ≤ len ∧ i = .int .i64 k ∧ Hid (ovTo P S k = some l) ∧ wr.ownsRow (w.heap.size + 1) 3 1 v l.length (repCells l) ∧ Blk wr w.heap.size 35 (cells4 S) ∧ Below w.heap.size w wr)
    (fun _ i _ => len - (intOf i).toNat)
  case atStart => exact ⟨0, [], Nat.zero_le _, rfl, Lib.hid rfl, World.ownsRow_nil _ _ _ _, HS0.out, HB0.out⟩
  case round =>
    obtain ⟨k, l, hk, rfl, hov, hown, hSb, hB⟩ := hrel
    obtain ⟨hll, hlx⟩ := ovTo_bound k l hov.out
    by_cases hlt : k < len
    · obtain ⟨g, off, rfl, hg, hc⟩ := HSW.out (by rw [HL.out]; omega)
      have hkP : k < P.length := by rw [HL.out]; exact hlt
      have HC := Lib.hid (hc k hkP)
      have hskip := Lib.hid (ovTo_skip hov.out)
      have htake := Lib.hid (ovTo_take hov.out)
      have hbad := Lib.hid (ov_bad hkP hov.out)
      have hsome := Lib.hid (fun e => Pt.part_some HP.out hkP (S := S) e)
      clear hc hkP
      generalize P.getD k no = T at HC hskip htake hbad hsome
      have hlti : (k : Int) < (len : Int) := by omega
      have hsz := hSb.lt
      obtain ⟨t0, t1, t2, t3⟩ := HC.out.below hB hg
      obtain ⟨s0, s1, s2, s3⟩ := hSb.cells
      have hgl : g < wr.heap.size := Nat.lt_trans hg hsz
      have ha0 := fun o : Obj => (Below.heap_alloc wr o g hgl)
      have A0 : ∀ (o : Obj) (j : Nat), (wr.alloc o).cell? ⟨g, j, none⟩ = wr.cell? ⟨g, j, none⟩ := fun o j => World.cell?_of_block (ha0 o)
      clear ha0
      have hownD : wr.drew.ownsRow (w.heap.size + 1) 3 1 u6 l.length (repCells l) := hown
      have hSD : Blk wr.drew w.heap.size 35 (cells4 S) := hSb
      have hBD : Below w.heap.size w wr.drew := hB.drew
      have hownE : (wr.alloc (.cells zero4 35)).drew.ownsRow (w.heap.size + 1) 3 1 u6 l.length (repCells l) := hown.alloc _
      have hSE : Blk (wr.alloc (.cells zero4 35)).drew w.heap.size 35 (cells4 S) := hSb.alloc _
      have hBE : Below w.heap.size w (wr.alloc (.cells zero4 35)).drew := (bal hB (.cells zero4 35)).drew
      have hvb : u6.ownBlock ≠ some wr.heap.size := fun e => by have := hown.lt _ e; omega
      have hnb : w.heap.size ≠ wr.heap.size := by omega
      go_upto_region 7 with fail
      go_cut [8] from 12 to 36 (fun s8 wx => ∃ gb, s8 = .pointer (some ⟨gb, 0, none⟩) ∧ Blk wx gb 35 (cells4 (cand T S)) ∧ wx.ownsRow (w.heap.size + 1) 3 1 u6 l.length (repCells l) ∧ Blk wx w.heap.size 35 (cells4 S) ∧ Below w.heap.size w wx)
      case first =>
        go_region_with (first | (go_at_call 29; refine (by0_any _ _ _).mono ?_; rintro e w1 ⟨rfl, hb1⟩; first | (have hx := Blk.below (n := (wr.alloc (.cells zero4 35)).drew.heap.size) (show Blk (wr.alloc (.cells zero4 35)).drew wr.heap.size 35 zero4 from Blk.new wr 35 zero4) hb1 (show wr.heap.size < (wr.alloc (.cells zero4 35)).heap.size by simp); have z0 := hx.cell 0; have z1 := hx.cell 1; have z2 := hx.cell 2; have z3 := hx.cell 3; have f0 := hx.frozen 0; have f1 := hx.frozen 1; have f2 := hx.frozen 2; have f3 := hx.frozen 3) | skip))
        all_goals
          go_wp2_with fail
          go_meet
          case rel =>
            first
            | (refine ⟨w1.heap.size, by with_reducible rfl, ?_⟩; exact ⟨Blk.new _ _ _, (owns_below hownD hb1).alloc _, (hSD.below hb1 hSD.lt).alloc _, bal (btr hBD hb1) _⟩)
            | (refine ⟨wr.heap.size, by with_reducible rfl, ?_⟩; exact ⟨setA (A := no) hx _, ownsRow_setCell_other (ownsRow_setCell_other (ownsRow_setCell_other (ownsRow_setCell_other (owns_below hownE hb1) (a := ⟨wr.heap.size, 0, none⟩) hvb _) (a := ⟨wr.heap.size, 1, none⟩) hvb _) (a := ⟨wr.heap.size, 2, none⟩) hvb _) (a := ⟨wr.heap.size, 3, none⟩) hvb _, ((((hSE.below hb1 hSE.lt).other ⟨wr.heap.size, 0, none⟩ _ hnb).other ⟨wr.heap.size, 1, none⟩ _ hnb).other ⟨wr.heap.size, 2, none⟩ _ hnb).other ⟨wr.heap.size, 3, none⟩ _ hnb, below_put4g0 (btr hBE hb1) (Nat.le_of_lt hsz)⟩)
      case rest =>
        obtain ⟨gb, rfl, hC, hown1, hS1, hB1⟩ := hcut
        clear hown hSb hB t0 t1 t2 t3 s0 s1 s2 s3 hownD hSD hBD hownE hSE hBE A0 hvb hnb
        obtain ⟨t0, t1, t2, t3⟩ := HC.out.below hB1 hg
        obtain ⟨m0, m1, m2, m3⟩ := hC.cells
        have hq1 : ∀ w, (Op.equalIn 10000 35 (sv (cand T S)) (.agg zero4)).run Tryd.prog w = .ok (eqs (cand T S) no) w := fun w => eq_sets2 (cand T S) no w
        have hq2 : ∀ w, (Op.equalIn 10000 35 (sv (cand T S)) (sv T)).run Tryd.prog w = .ok (eqs (cand T S) T) w := fun w => eq_sets2 (cand T S) T w
        cases h2 : eqs (cand T S) T with
        | true =>
          have HO := Lib.hid (htake.out (hsome.out h2) h2)
          rw [h2] at hq2
          clear hskip htake hbad hsome hq1 h2
          obtain ⟨po, pc, rfl⟩ := owns_slice hown1
          go_wp2_with fail
          go_quiet (fail)
          clear t0 t1 t2 t3 m0 m1 m2 m3 hq2
          have hownq : (wc.drewN nq).ownsRow (w.heap.size + 1) 3 1 (.slice po l.length pc) l.length (repCells l) := owns_drewN hown1 nq
          have hSq := hS1.drewN nq
          have hBq := below_drewN hB1 nq
          have hszq : w.heap.size + 1 ≤ (wc.drewN nq).heap.size := hSq.lt
          clear hown1 hS1 hB1 hC
          generalize wc.drewN nq = wd at *
          go_wp2_with (first | (at_builtin; refine wpList_append_own _ rfl _ _ 26 rfl (w.heap.size + 1) 3 i0 (.int .i64 0) 1 8 Tryd.underlying26 hi hz0 hz1 hz2 rfl (by decide) _ _ _ rfl (hownq.alloc _) ⟨wd.heap.size, 0, none⟩ 1 1 [.int .i64 (k : Int)] rfl rfl (cell_one_new _ _ _) (by simp [Value.oneCell']) (by unfold maxLen; omega) (by omega) (by simp; omega) ?_; intro v' w3 hown3 hg3 _) | fail)
          have hlow := grown_low _ hownq hszq hg3
          have hS3 := hSq.below hlow (by omega)
          have hB3 := hBq.trans (hlow.mono (by omega))
          have e4 : repCells l ++ [.int .i64 (k : Int)] = repCells (l ++ [k]) := by simp [repCells]
          rw [e4] at hown3
          clear hownq hSq hBq hg3 hlow e4
          go_roundw
          case rel => exact ⟨k + 1, l ++ [k], by omega, by go_num, HO, by rw [List.length_append]; exact hown3, hS3, hB3⟩
          case measure => simp [intOf]; omega
        | false =>
          rw [h2] at hq2
          cases h1 : eqs (cand T S) no with
          | true =>
            have HO := Lib.hid (hskip.out h1)
            rw [h1] at hq1
            clear hskip htake hbad hsome
            go_wp2_with fail
            go_quiet (fail)
            go_wp2
            go_roundw
            case rel => exact ⟨k + 1, l, by omega, by go_num, HO, owns_drewN hown1 nq, hS1.drewN nq, below_drewN hB1 nq⟩
            case measure => simp [intOf]; omega
          | false =>
            have HO := Lib.hid (hbad.out h1 h2)
            rw [h1] at hq1
            clear hskip htake hbad hsome
            go_wp2_with fail
            go_quiet (fail)
            go_wp2
            go_ret2
            exact ⟨_, rfl, .inr ⟨HO.out, rfl⟩, below_drewN hB1 nq⟩
    · obtain rfl : k = len := by omega
      have HO := Lib.hid (show ov P S = some l by unfold ov; rw [HL.out]; exact hov.out)
      have hown' : wr.ownsRow (w.heap.size + 1) 3 1 u6 (l.map fun x : Nat => (x : Int)).length ((l.map fun x : Nat => (x : Int)).map (Value.int .i64)) := by
        rw [List.length_map, List.map_map]; exact hown
      obtain ⟨bo, bc, rfl, hat⟩ := IAt.of_owns hown'
      rw [List.length_map]
      have HA := Lib.hid hat
      clear hown hown' hat hSb hov
      go_wp2
      go_ret2
      exact ⟨_, rfl, .inl ⟨l, bo, bc, HO.out, rfl, HA.out⟩, hB⟩
end Go.Proofs.YtjfjfbefhdabeaaDoor
