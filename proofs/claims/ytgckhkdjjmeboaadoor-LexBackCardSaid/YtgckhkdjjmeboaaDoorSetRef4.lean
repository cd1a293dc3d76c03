/-
  The walk of the reference's Rows: the rows of a set in a new slice; nothing that was there before the call has changed. Conditions: none.
-/
import Derived.Test.YtgckhkdjjmeboaaDoorSetRef3
import Derived.Test.YtgckhkdjjmeboaaDoorSetRowsC
import Derived.Test.YtgckhkdjjmeboaaDoorSetPairs
import Derived.Deep.RegionLaw
namespace Go.Proofs.YtgckhkdjjmeboaaDoor
open Go.RowKit

/-- An append to a row of the call's own, as one step of a region that draws its order. -/
theorem step_append_own {P : Program} {ops : Array Oper} {o : Oper} {a : Act} {w : World} {K : Act → World → Prop} {Q : Exit → Act → World → Prop} {E : Prop}
    (hg : o.guard = none) (s x : Operand) (t : TypeId) (hop : o.op = Op.call { callee := Callee.builtin Builtin.append, args := #[s, x], argTypes := #[t, t] })
    (base : Nat) (e : TypeId) (i : TypeInfo) (z : Value) (size bytes : Nat) (h1 : P.underlying t = some (.slice e)) (h2 : P.info? e = some i) (h3 : i.zero = some z) (h4 : i.size = size) (h5 : i.bytes = bytes) (h6 : z.cells.size = size) (h7 : 0 < size)
    (v : Value) (k : Nat) (xs : List Value) (hs : a.eval s = v) (hown : w.ownsRow base e size v k xs) (ad : Addr) (m c : Nat) (news : List Value) (hx : a.eval x = .slice (some ad) m c) (hn : news.length = m * size)
    (hc : ∀ j u, news[j]? = some u → w.cell? (ad.add j) = some u) (h1c : ∀ u ∈ news, u.oneCell' = true) (b1 : k + m ≤ maxLen) (b2 : (k + m) * bytes ≤ 140737488355328) (b3 : base ≤ w.heap.size)
    (hK : ∀ v' w', w'.ownsRow base e size v' (k + m) (xs ++ news) → w.grownBy w' v.ownBlock → K (a.put o.dst v') w') :
    if Region.wanted o (yielded ops a.tmps) = true then Oper.wp P o a w K Q else E := by
  have hw : Region.wanted o (yielded ops a.tmps) = true := by simp [Region.wanted, hg]
  rw [if_pos hw]
  obtain ⟨v', w', hrun, r1, r2, _⟩ := run_append_own (P := P) w base t o.type e i z size bytes h1 h2 h3 h4 h5 h6 h7 v k xs hown ad m c news hn hc h1c b1 b2 b3
  have := hK v' w' r1 r2
  unfold Oper.wp
  simp [execOp, hop, resolve, invoke, builtin, hs, hx, hrun, Result.andThen]
  exact this

/-- The slice of bytes, read: its block lies below a bound. -/
def BAt (W : World) (ao : Option Addr) (l : List Nat) (base : Nat) : Prop :=
  0 < l.length → ∃ g, ao = some ⟨g, 0, none⟩ ∧ g < base ∧ ∀ i, i < l.length → W.cell? ⟨g, i, none⟩ = some (.int .u8 ((l.getD i 0 : Nat) : Int))
theorem BAt.below {W W' : World} {ao : Option Addr} {l : List Nat} {base : Nat} (h : BAt W ao l base) (hb : Below base W W') : BAt W' ao l base := by
  intro hp
  obtain ⟨g, hg, hlt, hc⟩ := h hp
  exact ⟨g, hg, hlt, fun i hi => (hb.cell (p := ⟨g, _, none⟩) hlt).trans (hc i hi)⟩

set_option maxRecDepth 100000 in
set_option maxHeartbeats 4000000 in
theorem refrows_any (S : Nat → Bool) (w : World) :
    Calls Tryd.prog 21 #[sv S] w fun e w' => ∃ v, e = .returned v ∧ PS w' v (rowsOf S) ∧ Below w.heap.size w w' := by
  obtain ⟨i0, hi, hz0, hz1, hz2⟩ := info_parts info44
  go_enter Tryd.func21, Tryd.ntmps21
  go_wp2_with fail
  refine (bytes_any S _).mono ?_
  rintro e w2 ⟨v, rfl, ⟨ao, cap, rfl, hbs⟩, hb2⟩
  have hB2 := btr (bal (Below.refl w.heap.size w) _) hb2
  have hat : BAt w2 ao (bytesTo S 256) w2.heap.size := hbs
  have hlen := bytesTo_length S 256
  have hmem := Lib.hid (bytesTo_mem S 256)
  have hrr := Lib.hid (rr_all S)
  have hrl := rowsOf_length S
  clear hbs hb2
  generalize bytesTo S 256 = l at *
  obtain ⟨n, hn⟩ : ∃ n, l.length = n := ⟨_, rfl⟩
  have HN := Lib.hid hn
  rw [hn] at hlen ⊢
  clear hn
  obtain ⟨base, hbase⟩ : ∃ b, w2.heap.size = b := ⟨_, rfl⟩
  have HBS := Lib.hid hbase
  have hbw : w.heap.size ≤ base := by rw [← hbase]; exact hB2.size
  have hat2 := Lib.hid hat
  rw [hbase] at hat2
  clear hat hbase
  go_wp2_with fail
  go_loopw [3, 5, 6] (fun v q i wr => ∃ (k m : Nat) (out : List (Nat × Nat)), k ≤ n ∧ m ≤ k ∧ i = .int .i64 k ∧ q = .int .i64 m ∧ wr.ownsRow base 47 2 v out.length (pairCells out) ∧ Hid (out ++ rr (l.getD m 0) (l.drop k) = rowsOf S) ∧ Hid (BAt wr ao l base) ∧ Below w.heap.size w wr ∧ base ≤ wr.heap.size)
    (fun _ _ i _ => n - (intOf i).toNat)
  case atStart => exact ⟨0, 0, [], Nat.zero_le _, Nat.le_refl _, rfl, rfl, World.ownsRow_nil _ _ _ _, Lib.hid (by rw [List.nil_append, List.drop_zero]; exact hrr.out), hat2, hB2, by rw [HBS.out]; exact Nat.le_refl _⟩
  case round =>
    clear hat2 hB2
    obtain ⟨k, m, out, hk, hm, rfl, rfl, hown, hsp, hat, hB, hbs⟩ := hrel
    have hol : out.length ≤ 256 := by
      have := congrArg List.length hsp.out
      rw [List.length_append] at this
      omega
    by_cases hlt : k < n
    · obtain ⟨g, rfl, hgb, hc⟩ := hat.out (by rw [HN.out]; omega)
      rw [HN.out] at hc
      have ck := hc k hlt
      have cm := hc m (by omega)
      have hxk := hmem.out (l.getD k 0) (by rw [List.getD, List.getElem?_eq_getElem (by rw [HN.out]; exact hlt)]; simp)
      have hw1 : IntKind.i64.wrap ((k : Int) + 1) = (k : Int) + 1 := IntWalk.i64_in _ (by omega)
      have ht1 : ((k : Int) + 1).toNat = k + 1 := by omega
      have hp1 : (0 : Int) ≤ (k : Int) + 1 := by omega
      have hkn : (k : Int) < (n : Int) := by omega
      have hmn : (m : Int) < (n : Int) := by omega
      by_cases hend : k + 1 = n
      · have hstep := Lib.hid (rr_step_end l (l.getD m 0) k (by rw [HN.out]; exact hend))
        have he : ((k : Int) + 1 == (n : Int)) = true := by rw [beq_iff_eq]; omega
        have HEnd := Lib.hid hend
        clear hend hc
        generalize l.getD k 0 = x at *
        generalize l.getD m 0 = y at *
        go_wp2_with fail
        go_quiet (fail)
        clear he hw1 ht1 hp1
        go_wp2_with fail
        have hown0 : (wr.drewN nq).drew.ownsRow base 47 2 u3 out.length (pairCells out) := hown
        have hat0 : Hid (BAt (wr.drewN nq).drew (some ⟨g, 0, none⟩) l base) := hat
        have hB0 : Below w.heap.size w (wr.drewN nq).drew := (below_drewN hB nq).drew
        go_region_law (refine step_append_own rfl _ _ 45 rfl base 47 i0 (.agg #[.int .u8 0, .int .u8 0]) 2 2 Tryd.underlying45 hi hz0 hz1 hz2 rfl (by decide) _ _ _ rfl (hown0.alloc _) ⟨(wr.drewN nq).drew.heap.size, 0, none⟩ 1 1 [.int .u8 (y : Int), .int .u8 (x : Int)] rfl rfl (cell_two_new _ _ _ _) (by simp [Value.oneCell']) (by unfold maxLen; omega) (by omega) (by simp; omega) ?_; intro v' w3 hown3 hgrow)
        all_goals
          have hlow := grown_low _ hown0 hbs hgrow
          have hsz3 := hlow.size
          go_wp2
          go_roundw
          case rel => exact ⟨k + 1, k + 1, out ++ [(y, x)], by omega, Nat.le_refl _, by go_num, by go_num, by rw [List.length_append, pairCells_append]; exact hown3, Lib.hid (by rw [List.append_assoc, ← hsp.out, hstep.out, List.drop_of_length_le (by rw [HN.out, HEnd.out]; exact Nat.le_refl _)]; rfl), Lib.hid (hat0.out.below hlow), hB0.trans (hlow.mono hbw), Nat.le_trans hbs hsz3⟩
          case measure => simp [intOf]; omega
      · have hlt1 : k + 1 < n := by omega
        have he : ((k : Int) + 1 == (n : Int)) = false := by simp; omega
        have ck1 := hc (k + 1) hlt1
        have hkn1 : (k : Int) + 1 < (n : Int) := by omega
        clear hc hend
        by_cases hnx : l.getD (k + 1) 0 = l.getD k 0 + 1
        · have hstep := Lib.hid (rr_step_on l (l.getD m 0) k (by rw [HN.out]; exact hlt1) hnx)
          rw [hnx] at ck1
          clear hnx
          generalize l.getD k 0 = x at *
          have hw2 : IntKind.i64.wrap ((x : Int) + 1) = (x : Int) + 1 := IntWalk.i64_in _ (by omega)
          have ck2 : wr.cell? ⟨g, k + 1, none⟩ = some (.int .u8 ((x : Int) + 1)) := by rw [ck1, Int.natCast_add]; rfl
          clear ck1
          have hw3 : IntKind.i64.wrap (x : Int) = (x : Int) := IntWalk.i64_in _ (by omega)
          go_wp2_with fail
          go_quiet (fail)
          go_wp2_with fail
          go_roundw
          case rel => exact ⟨k + 1, m, out, by omega, by omega, by go_num, rfl, hown, Lib.hid (by rw [← hstep.out]; exact hsp.out), hat, below_drewN hB nq, hbs⟩
          case measure => simp [intOf]; omega
        · have hstep := Lib.hid (rr_step_new l (l.getD m 0) k (by rw [HN.out]; exact hlt1) hnx)
          have hxk1 := hmem.out (l.getD (k + 1) 0) (by rw [List.getD, List.getElem?_eq_getElem (by rw [HN.out]; exact hlt1)]; simp)
          generalize hy1 : l.getD (k + 1) 0 = y1 at *
          have HY1 := Lib.hid hy1
          clear hy1
          generalize l.getD k 0 = x at *
          generalize l.getD m 0 = y at *
          have hw2 : IntKind.i64.wrap ((x : Int) + 1) = (x : Int) + 1 := IntWalk.i64_in _ (by omega)
          have hw3 : IntKind.i64.wrap (x : Int) = (x : Int) := IntWalk.i64_in _ (by omega)
          have hw4 : IntKind.i64.wrap (y1 : Int) = (y1 : Int) := IntWalk.i64_in _ (by omega)
          have hn1 : ((y1 : Int) == (x : Int) + 1) = false := by simp; omega
          have hn2 : ((y1 : Int) != (x : Int) + 1) = true := by simp; omega
          clear hnx
          go_wp2_with fail
          go_quiet (fail)
          clear hn1 hn2 hw2 hw3 hw4 ck1
          clear he hw1 ht1 hp1
          go_wp2_with fail
          have hown0 : (wr.drewN nq).drew.ownsRow base 47 2 u3 out.length (pairCells out) := hown
          have hat0 : Hid (BAt (wr.drewN nq).drew (some ⟨g, 0, none⟩) l base) := hat
          have hB0 : Below w.heap.size w (wr.drewN nq).drew := (below_drewN hB nq).drew
          go_region_law (refine step_append_own rfl _ _ 45 rfl base 47 i0 (.agg #[.int .u8 0, .int .u8 0]) 2 2 Tryd.underlying45 hi hz0 hz1 hz2 rfl (by decide) _ _ _ rfl (hown0.alloc _) ⟨(wr.drewN nq).drew.heap.size, 0, none⟩ 1 1 [.int .u8 (y : Int), .int .u8 (x : Int)] rfl rfl (cell_two_new _ _ _ _) (by simp [Value.oneCell']) (by unfold maxLen; omega) (by omega) (by simp; omega) ?_; intro v' w3 hown3 hgrow)
          all_goals
            have hlow := grown_low _ hown0 hbs hgrow
            have hsz3 := hlow.size
            go_wp2
            go_roundw
            case rel => exact ⟨k + 1, k + 1, out ++ [(y, x)], by omega, Nat.le_refl _, by go_num, by go_num, by rw [List.length_append, pairCells_append]; exact hown3, Lib.hid (by rw [List.append_assoc, HY1.out, ← hsp.out, hstep.out]; rfl), Lib.hid (hat0.out.below hlow), hB0.trans (hlow.mono hbw), Nat.le_trans hbs hsz3⟩
            case measure => simp [intOf]; omega
    · obtain rfl : k = n := by omega
      have hps := Lib.hid (PS.of_owns hown)
      have hfull : out = rowsOf S := by
        have := hsp.out
        rwa [List.drop_of_length_le (by rw [HN.out]; exact Nat.le_refl _), rr, List.append_nil] at this
      have HF := Lib.hid hfull
      clear hown hfull hat
      go_wp2
      go_ret
      exact ⟨_, rfl, by rw [← HF.out]; exact hps.out, hB⟩
end Go.Proofs.YtgckhkdjjmeboaaDoor
