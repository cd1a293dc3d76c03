/-
  The walk of the statement SetTurns: of any two sets it returns true; nothing that was there before the call has changed. Conditions: the table of math/bits as it is laid.
-/
import Derived.Test.YtanpammidlphbaaDoorSetAwake
import Derived.Test.YtanpammidlphbaaDoorSetOps
import Derived.Test.YtanpammidlphbaaDoorSetRef4
import Derived.Deep.RegionHeld3
namespace Go.Proofs.YtanpammidlphbaaDoor
open Go.RowKit

/-- What By makes, by the way asked for. -/
def byS (how : Int) (S T : Nat → Bool) : Nat → Bool := if how = 0 then cand S T else if how = 1 then cor S T else if how = 2 then cless S T else neg S
theorem by_all (S T : Nat → Bool) (how : Int) (h : how = 0 ∨ how = 1 ∨ how = 2 ∨ how = 3) (w : World) :
    Calls Tryd.prog 17 #[sv S, sv T, .int .i64 how] w fun e w' => e = .returned (sv (byS how S T)) ∧ Below w.heap.size w w' := by
  rcases h with rfl | rfl | rfl | rfl
  · exact by0_any S T w
  · exact by1_any S T w
  · exact by2_any S T w
  · exact by3_any S T w

/-- What holds throughout: the two sets' blocks, the table, the old memory. -/
def TurnsInv (w0 : World) (S T : Nat → Bool) (W : World) : Prop := Blk W w0.heap.size 25 (cells4 S) ∧ Blk W (w0.heap.size + 1) 25 (cells4 T) ∧ Tab W ∧ Below w0.heap.size w0 W
abbrev TurnsS (w : World) (S T : Nat → Bool) (W : World) : Prop :=
  (W.cell? ⟨w.heap.size, 0, none⟩ = some (.int .u64 ((wd S 0 : Nat) : Int)) ∧ W.cell? ⟨w.heap.size, 1, none⟩ = some (.int .u64 ((wd S 1 : Nat) : Int)) ∧ W.cell? ⟨w.heap.size, 2, none⟩ = some (.int .u64 ((wd S 2 : Nat) : Int)) ∧ W.cell? ⟨w.heap.size, 3, none⟩ = some (.int .u64 ((wd S 3 : Nat) : Int))) ∧ (W.cell? ⟨w.heap.size + 1, 0, none⟩ = some (.int .u64 ((wd T 0 : Nat) : Int)) ∧ W.cell? ⟨w.heap.size + 1, 1, none⟩ = some (.int .u64 ((wd T 1 : Nat) : Int)) ∧ W.cell? ⟨w.heap.size + 1, 2, none⟩ = some (.int .u64 ((wd T 2 : Nat) : Int)) ∧ W.cell? ⟨w.heap.size + 1, 3, none⟩ = some (.int .u64 ((wd T 3 : Nat) : Int))) ∧ TurnsInv w S T W
theorem TurnsInv.step {w0 : World} {S T : Nat → Bool} {W W' : World} (hb : Below W.heap.size W W') (h : TurnsInv w0 S T W) : TurnsInv w0 S T W' :=
  ⟨h.1.below hb h.1.lt, h.2.1.below hb h.2.1.lt, h.2.2.1.below' hb, btr h.2.2.2 hb⟩
theorem TurnsInv.cells {w0 : World} {S T : Nat → Bool} {W : World} (h : TurnsInv w0 S T W) : TurnsS w0 S T W := ⟨h.1.cells, h.2.1.cells, h⟩
theorem turnsS_step {w0 : World} {S T : Nat → Bool} {W W' : World} (hb : Below W.heap.size W W') (h : TurnsS w0 S T W) : TurnsS w0 S T W' := (h.2.2.step hb).cells
theorem turnsS_drew {w0 : World} {S T : Nat → Bool} {W : World} (h : TurnsS w0 S T W) : TurnsS w0 S T W.drew :=
  TurnsInv.cells ⟨h.2.2.1, h.2.2.2.1, h.2.2.2.2.1, h.2.2.2.2.2.drew⟩
theorem turnsS_tab {w0 : World} {S T : Nat → Bool} {W : World} (h : TurnsS w0 S T W) : Tab W := h.2.2.2.2.1
theorem turnsS_below {w0 : World} {S T : Nat → Bool} {W : World} (h : TurnsS w0 S T W) : Below w0.heap.size w0 W := h.2.2.2.2.2

set_option maxRecDepth 100000 in
set_option maxHeartbeats 8000000 in
theorem setTurns_walk (S T : Nat → Bool) (w : World) (hT : Tab w) :
    Calls Tryd.prog 4 #[sv S, sv T] w fun e w' => e = .returned (.bool true) ∧ Below w.heap.size w w' := by
  have hgd := guard25
  go_enter Tryd.func4, Tryd.ntmps4
  go_wp2_with fail
  have hI0 : TurnsInv w S T ((w.alloc (.cells (cells4 S) 25)).alloc (.cells (cells4 T) 25)) :=
    ⟨(Blk.new w 25 (cells4 S)).alloc _, by have := Blk.new (w.alloc (.cells (cells4 S) 25)) 25 (cells4 T); rwa [World.size_alloc] at this, hT.below' (bal (bal (Below.refl _ _) _) _), bal (bal (Below.refl _ _) _) _⟩
  refine (bytes_any S _).mono ?_
  rintro e w2 ⟨v, rfl, ⟨ao, cap, rfl, hbs⟩, hb2⟩
  have hI2 := hI0.step hb2
  clear hI0 hb2 hT
  obtain ⟨s0, s1, s2, s3⟩ := hI2.1.cells
  have hfirst := Lib.hid (first_any S w2 hI2.2.2.1)
  have hbf := bytes_first S
  have hnx := (nxt_spec S 0 (by decide)).2.1
  have hcnt := bytesTo_cnt S 256
  have hbl := bytesTo_length S 256
  generalize bytesTo S 256 = l at *
  obtain ⟨n, hn⟩ : ∃ n, l.length = n := ⟨_, rfl⟩
  rw [hn] at hbf hcnt hbl ⊢
  have HN := Lib.hid hn
  clear hn
  have hsz := Lib.hid (show sz S = n from hcnt.symm)
  clear hcnt
  have hc : Hid (0 < n → ∃ g, ao = some ⟨g, 0, none⟩ ∧ g < w2.heap.size ∧ w2.cell? ⟨g, 0, none⟩ = some (.int .u8 ((l.getD 0 0 : Nat) : Int))) := Lib.hid fun h0 => by
    obtain ⟨g, hg, hlt, hcell⟩ := hbs (by rw [HN.out]; exact h0)
    exact ⟨g, hg, hlt, hcell 0 (by rw [HN.out]; exact h0)⟩
  have hse : (((sz S : Nat) : Int) == (n : Int)) = true := by rw [beq_iff_eq, hsz.out]
  clear hbs hsz
  by_cases hx : nxt S 0 = 256
  · have hl : l = [] := hbf.1 hx
    have h0 : n = 0 := by rw [← HN.out, hl]; rfl
    have hf : Calls Tryd.prog 15 #[sv S] w2 fun e w' => e = .returned (.tuple #[.int .u8 0, .bool false]) ∧ Below w2.heap.size w2 w' := by
      have := hfirst.out
      rw [if_pos hx, decide_eq_false (by omega)] at this
      exact this
    have HF := Lib.hid hf
    have e1 : ((n : Int) == 0) = true := by rw [beq_iff_eq]; omega
    clear hl h0 hf hx hbf hnx hfirst hc HN
    go_wp2_with fail
    refine HF.out.mono ?_
    rintro e w3 ⟨rfl, hb3⟩
    have hI3 := hI2.step hb3
    clear s0 s1 s2 s3 HF hI2 hb3
    go_wp2_with fail
    have hq0 : ∀ w, (Op.equalIn 10000 25 (sv (cand S T)) (sv (byS 0 S T))).run Tryd.prog w = .ok true w := eq_sets (cand S T)
    have hq1 : ∀ w, (Op.equalIn 10000 25 (sv (cor S T)) (sv (byS 1 S T))).run Tryd.prog w = .ok true w := eq_sets (cor S T)
    have hq2 : ∀ w, (Op.equalIn 10000 25 (sv (cless S T)) (sv (byS 2 S T))).run Tryd.prog w = .ok true w := eq_sets (cless S T)
    have hq3 : ∀ w, (Op.equalIn 10000 25 (sv (neg S)) (sv (byS 3 S T))).run Tryd.prog w = .ok true w := eq_sets (neg S)
    have HI : TurnsS w S T w3.drew := turnsS_drew hI3.cells
    clear hI3
    go_region_held3 (fun W' => (W'.cell? ⟨w.heap.size, 0, none⟩ = some (.int .u64 ((wd S 0 : Nat) : Int)) ∧ W'.cell? ⟨w.heap.size, 1, none⟩ = some (.int .u64 ((wd S 1 : Nat) : Int)) ∧ W'.cell? ⟨w.heap.size, 2, none⟩ = some (.int .u64 ((wd S 2 : Nat) : Int)) ∧ W'.cell? ⟨w.heap.size, 3, none⟩ = some (.int .u64 ((wd S 3 : Nat) : Int))) ∧ (W'.cell? ⟨w.heap.size + 1, 0, none⟩ = some (.int .u64 ((wd T 0 : Nat) : Int)) ∧ W'.cell? ⟨w.heap.size + 1, 1, none⟩ = some (.int .u64 ((wd T 1 : Nat) : Int)) ∧ W'.cell? ⟨w.heap.size + 1, 2, none⟩ = some (.int .u64 ((wd T 2 : Nat) : Int)) ∧ W'.cell? ⟨w.heap.size + 1, 3, none⟩ = some (.int .u64 ((wd T 3 : Nat) : Int))) ∧ TurnsInv w S T W')
      ((first | with_reducible exact HI | exact turnsS_step (by assumption) (by assumption)))
      (first | (go_at_call 17; refine (by_all _ _ _ (by decide) _).mono ?_; rintro e w' ⟨rfl, hb⟩) | (go_at_call 18; refine (any_to _ _ _).mono ?_; rintro e w' ⟨rfl, hb⟩) | (go_at_call 16; refine (both_to _ _ _).mono ?_; rintro e w' ⟨rfl, hb⟩) | (go_at_call 19; refine (less_to _ _ _).mono ?_; rintro e w' ⟨rfl, hb⟩) | (go_at_call 20; refine (neg_to _ _).mono ?_; rintro e w' ⟨rfl, hb⟩))
    clear hq0 hq1 hq2 hq3 HI
    go_wp2_with fail
    go_region_held3 (fun W' => (W'.cell? ⟨w.heap.size, 0, none⟩ = some (.int .u64 ((wd S 0 : Nat) : Int)) ∧ W'.cell? ⟨w.heap.size, 1, none⟩ = some (.int .u64 ((wd S 1 : Nat) : Int)) ∧ W'.cell? ⟨w.heap.size, 2, none⟩ = some (.int .u64 ((wd S 2 : Nat) : Int)) ∧ W'.cell? ⟨w.heap.size, 3, none⟩ = some (.int .u64 ((wd S 3 : Nat) : Int))) ∧ (W'.cell? ⟨w.heap.size + 1, 0, none⟩ = some (.int .u64 ((wd T 0 : Nat) : Int)) ∧ W'.cell? ⟨w.heap.size + 1, 1, none⟩ = some (.int .u64 ((wd T 1 : Nat) : Int)) ∧ W'.cell? ⟨w.heap.size + 1, 2, none⟩ = some (.int .u64 ((wd T 2 : Nat) : Int)) ∧ W'.cell? ⟨w.heap.size + 1, 3, none⟩ = some (.int .u64 ((wd T 3 : Nat) : Int))) ∧ TurnsInv w S T W')
      ((first | exact turnsS_step (by assumption) (by assumption) | exact turnsS_drew (by assumption)))
      (first | (go_at_call 7; refine (awake_any _ (turnsS_tab (by assumption))).mono ?_; rintro e w' ⟨rfl, hb⟩) | (go_at_call 21; refine (size_to _ _).mono ?_; rintro e w' ⟨rfl, hb⟩) | (go_at_call 23; refine (setRows_any _ _ (turnsS_tab (by assumption))).mono ?_; rintro e w' ⟨v1, rfl, hown, hb⟩; have hp1 := Lib.hid (PS.of_owns hown); clear hown) | (go_at_call 24; refine (refrows_any _ _).mono ?_; rintro e w' ⟨v2, rfl, hp2, hb⟩; have hp3 := Lib.hid (hp1.out.below hb); have hp4 := Lib.hid hp2; clear hp2) | (go_at_call 22; refine (pairs_any _ _ _ _ (rowsOf_length S) _ hp3.out hp4.out).mono ?_; rw [decide_eq_true rfl]; rintro e w' ⟨rfl, hb⟩))
    go_wp2
    go_ret
    exact ⟨rfl, turnsS_below (by assumption)⟩
  · obtain ⟨h0, h1⟩ := hbf.2 (by omega)
    obtain ⟨g, rfl, hgl, hcell⟩ := hc.out h0
    rw [h1] at hcell
    have hf : Calls Tryd.prog 15 #[sv S] w2 fun e w' => e = .returned (.tuple #[.int .u8 ((nxt S 0 : Nat) : Int), .bool true]) ∧ Below w2.heap.size w2 w' := by
      have := hfirst.out
      rw [if_neg hx, decide_eq_true (by omega)] at this
      exact this
    have HF := Lib.hid hf
    have HC := Lib.hid hcell
    clear hbf hfirst hc HN hf h1 hx hcell
    generalize nxt S 0 = m at *
    have e1 : ((n : Int) == 0) = false := by simp; omega
    go_wp2_with fail
    refine HF.out.mono ?_
    rintro e w3 ⟨rfl, hb3⟩
    have hI3 := hI2.step hb3
    have hcell3 := (hb3.cell (p := ⟨g, 0, none⟩) hgl).trans HC.out
    clear s0 s1 s2 s3 HF hI2 hb3 HC
    go_wp2_with fail
    clear hcell3 e1 h0
    have hq0 : ∀ w, (Op.equalIn 10000 25 (sv (cand S T)) (sv (byS 0 S T))).run Tryd.prog w = .ok true w := eq_sets (cand S T)
    have hq1 : ∀ w, (Op.equalIn 10000 25 (sv (cor S T)) (sv (byS 1 S T))).run Tryd.prog w = .ok true w := eq_sets (cor S T)
    have hq2 : ∀ w, (Op.equalIn 10000 25 (sv (cless S T)) (sv (byS 2 S T))).run Tryd.prog w = .ok true w := eq_sets (cless S T)
    have hq3 : ∀ w, (Op.equalIn 10000 25 (sv (neg S)) (sv (byS 3 S T))).run Tryd.prog w = .ok true w := eq_sets (neg S)
    have HI : TurnsS w S T w3.drew := turnsS_drew hI3.cells
    clear hI3
    go_region_held3 (fun W' => (W'.cell? ⟨w.heap.size, 0, none⟩ = some (.int .u64 ((wd S 0 : Nat) : Int)) ∧ W'.cell? ⟨w.heap.size, 1, none⟩ = some (.int .u64 ((wd S 1 : Nat) : Int)) ∧ W'.cell? ⟨w.heap.size, 2, none⟩ = some (.int .u64 ((wd S 2 : Nat) : Int)) ∧ W'.cell? ⟨w.heap.size, 3, none⟩ = some (.int .u64 ((wd S 3 : Nat) : Int))) ∧ (W'.cell? ⟨w.heap.size + 1, 0, none⟩ = some (.int .u64 ((wd T 0 : Nat) : Int)) ∧ W'.cell? ⟨w.heap.size + 1, 1, none⟩ = some (.int .u64 ((wd T 1 : Nat) : Int)) ∧ W'.cell? ⟨w.heap.size + 1, 2, none⟩ = some (.int .u64 ((wd T 2 : Nat) : Int)) ∧ W'.cell? ⟨w.heap.size + 1, 3, none⟩ = some (.int .u64 ((wd T 3 : Nat) : Int))) ∧ TurnsInv w S T W')
      ((first | with_reducible exact HI | exact turnsS_step (by assumption) (by assumption)))
      (first | (go_at_call 17; refine (by_all _ _ _ (by decide) _).mono ?_; rintro e w' ⟨rfl, hb⟩) | (go_at_call 18; refine (any_to _ _ _).mono ?_; rintro e w' ⟨rfl, hb⟩) | (go_at_call 16; refine (both_to _ _ _).mono ?_; rintro e w' ⟨rfl, hb⟩) | (go_at_call 19; refine (less_to _ _ _).mono ?_; rintro e w' ⟨rfl, hb⟩) | (go_at_call 20; refine (neg_to _ _).mono ?_; rintro e w' ⟨rfl, hb⟩))
    clear hq0 hq1 hq2 hq3 HI
    go_wp2_with fail
    go_region_held3 (fun W' => (W'.cell? ⟨w.heap.size, 0, none⟩ = some (.int .u64 ((wd S 0 : Nat) : Int)) ∧ W'.cell? ⟨w.heap.size, 1, none⟩ = some (.int .u64 ((wd S 1 : Nat) : Int)) ∧ W'.cell? ⟨w.heap.size, 2, none⟩ = some (.int .u64 ((wd S 2 : Nat) : Int)) ∧ W'.cell? ⟨w.heap.size, 3, none⟩ = some (.int .u64 ((wd S 3 : Nat) : Int))) ∧ (W'.cell? ⟨w.heap.size + 1, 0, none⟩ = some (.int .u64 ((wd T 0 : Nat) : Int)) ∧ W'.cell? ⟨w.heap.size + 1, 1, none⟩ = some (.int .u64 ((wd T 1 : Nat) : Int)) ∧ W'.cell? ⟨w.heap.size + 1, 2, none⟩ = some (.int .u64 ((wd T 2 : Nat) : Int)) ∧ W'.cell? ⟨w.heap.size + 1, 3, none⟩ = some (.int .u64 ((wd T 3 : Nat) : Int))) ∧ TurnsInv w S T W')
      ((first | exact turnsS_step (by assumption) (by assumption) | exact turnsS_drew (by assumption)))
      (first | (go_at_call 7; refine (awake_any _ (turnsS_tab (by assumption))).mono ?_; rintro e w' ⟨rfl, hb⟩) | (go_at_call 21; refine (size_to _ _).mono ?_; rintro e w' ⟨rfl, hb⟩) | (go_at_call 23; refine (setRows_any _ _ (turnsS_tab (by assumption))).mono ?_; rintro e w' ⟨v1, rfl, hown, hb⟩; have hp1 := Lib.hid (PS.of_owns hown); clear hown) | (go_at_call 24; refine (refrows_any _ _).mono ?_; rintro e w' ⟨v2, rfl, hp2, hb⟩; have hp3 := Lib.hid (hp1.out.below hb); have hp4 := Lib.hid hp2; clear hp2) | (go_at_call 22; refine (pairs_any _ _ _ _ (rowsOf_length S) _ hp3.out hp4.out).mono ?_; rw [decide_eq_true rfl]; rintro e w' ⟨rfl, hb⟩))
    go_wp2
    go_ret
    exact ⟨rfl, turnsS_below (by assumption)⟩
end Go.Proofs.YtanpammidlphbaaDoor
