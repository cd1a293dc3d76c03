/-
  What the parser answers; one expression of parts. Conditions: those that each names.
-/
import Derived.Test.YtbiempopfmpohaaPwOften2
import Derived.Test.YtbiempopfmpohaaPwPlain
namespace Go.Proofs.Ytbiempopfmpohaa
open Go.RowKit

/-- What a part of the parser answers that reads an expression. -/
def PA (B d : Nat) (L : List (Tk × Nat)) (w : World) (ans : PAns Rx) (e : Ending) (w' : World) : Prop := match ans with
  | .error x => Bad B L w x.1 x.2 e w'
  | .ok y => (∃ ao cap, e = .returned (rxV y.1 ao cap) ∧ ReU w' (fun k => w.heap.size ≤ k) y.1 ao cap) ∧ Left B d L w w' y.2
/-- .. that reads several. -/
def PL (B d : Nat) (L : List (Tk × Nat)) (w : World) (ans : PAns (List Rx)) (e : Ending) (w' : World) : Prop := match ans with
  | .error x => Bad B L w x.1 x.2 e w'
  | .ok y => (∃ g cap, e = .returned (.slice (some ⟨g, 0, none⟩) y.1.length cap) ∧ 0 < y.1.length ∧ y.1.length ≤ 4398046511104 ∧ y.1.length ≤ cap ∧ cap ≤ maxLen ∧ w.heap.size ≤ g ∧ RowU w' (fun k => w.heap.size ≤ k) g 0 y.1) ∧ Left B d L w w' y.2
theorem wp_ld9 {ops : Array Oper} {rest : List Oper} {op : Oper} {a : Act} {w : World} {Q : Exit → Act → World → Prop} (hg : op.guard = none) (x : Operand) (ho : op.op = .load 27 x) (g o : Nat) (r : Rx) (ao : Option Addr) (cap : Nat)
    (hx : a.eval x = .pointer (some ⟨g, o, none⟩)) (hK : R9At w g o r ao cap) (h : wpList Try.prog ops Q rest (a.put op.dst (rxV r ao cap)) w) : wpList Try.prog ops Q (op :: rest) a w := by
  refine wpList_load_mid hg 27 x ho g o hx (rxCells r ao cap).toList _ (fun j v hv => ?_) Try.underlying27 rfl (by rw [size_re]; rfl) h
  obtain ⟨h0, h1, h2, h3, h4, h5, h6, h7, h8⟩ := hK
  have hj : j < 9 := by have := (List.getElem?_eq_some_iff.1 hv).1; simpa using this
  match j, hj with
  | 0, _ => exact h0.trans hv
  | 1, _ => exact h1.trans hv
  | 2, _ => exact h2.trans hv
  | 3, _ => exact h3.trans hv
  | 4, _ => exact h4.trans hv
  | 5, _ => exact h5.trans hv
  | 6, _ => exact h6.trans hv
  | 7, _ => exact h7.trans hv
  | 8, _ => exact h8.trans hv
theorem mk_cells (k : Int) (l : List Rx) (lo hi : Int) (ao : Option Addr) (n cap : Nat) (hn : l.length = n) : rxCells (.mk k [] noSet l lo hi) ao cap = #[.int .i64 k, .string { data := #[] }, .int .u64 0, .int .u64 0, .int .u64 0, .int .u64 0, .slice ao n cap, .int .i64 lo, .int .i64 hi] := by
  simp [Rx.kind, Rx.text, Rx.set, Rx.parts, Rx.lo, Rx.hi, wd_none, mkS, hn]

set_option maxRecDepth 100000 in
set_option maxHeartbeats 1000000 in
theorem pjoin_any (k : Int) (l : List Rx) (hl : 0 < l.length) (hm : l.length ≤ 4398046511104) (g cap : Nat) (hc : l.length ≤ cap) (hcm : cap ≤ maxLen) (F : Nat → Prop) (w : World) (hF : F g) (hr : RowU w F g 0 l) :
    Calls Try.prog 25 #[.int .i64 k, .slice (some ⟨g, 0, none⟩) l.length cap] w fun e w' => ∃ ao c, e = .returned (rxV (tog k l) ao c) ∧ ReU w' F (tog k l) ao c ∧ Below w.heap.size w w' := by
  have hB0 := bal0 w (.cells zr9 27)
  have hR := Blk.new w 27 zr9
  match l, hl, hm, hc, hr with
  | [x], _, _, hc, hr =>
    rw [RowU_cons] at hr
    obtain ⟨⟨ao, c, h9, hu⟩, -⟩ := hr
    have h9' := h9.below hB0 h9.lt
    have hu' := hu.on hB0
    have hl1 : ([x] : List Rx).length = 1 := rfl
    simp only [hl1] at hc ⊢
    go_enter Try.func25, Try.ntmps25
    go_wp2_with (first | (refine wp_ld9 rfl _ rfl g 0 x ao c rfl h9' ?_) | (refine wp_put rfl _ _ _ rfl w.heap.size _ (rxCells x ao c) rfl rfl hR (by rw [size_re]; rfl) rfl (by simp [Value.oneCell']) ?_; intro w3 hR3 hb3) | fail)
    refine ret_blk _ _ _ _ _ rfl rfl rfl hR3 Try.underlying27 rfl (by rw [size_re]; rfl) ?_
    have hB3 := hB0.trans (hb3.low (n := w.heap.size) (Nat.le_refl _) hB0.size)
    exact ⟨ao, c, rfl, hu.on hB3, hB3⟩
  | x :: y :: l, _, hm, hc, hr =>
    obtain ⟨n, hn⟩ : ∃ n, (x :: y :: l).length = n := ⟨_, rfl⟩
    have HC := Lib.hid (mk_cells k (x :: y :: l) 0 0 (some ⟨g, 0, none⟩) n cap hn)
    have HT := Lib.hid (show tog k (x :: y :: l) = .mk k [] noSet (x :: y :: l) 0 0 from rfl)
    have h2 : 2 ≤ n := by rw [← hn]; simp
    have hne : (((n : Nat) : Int) == 1) = false := by simp; omega
    have HN := Lib.hid hn
    rw [hn] at hm hc ⊢
    have HU := Lib.hid (show ∀ W, Below w.heap.size w W → ReU W F (tog k (x :: y :: l)) (some ⟨g, 0, none⟩) cap from fun W hb => by
      have : ReU w F (tog k (x :: y :: l)) (some ⟨g, 0, none⟩) cap := by
        rw [HT.out, ReU_eq]
        exact ⟨by show (x :: y :: l).length ≤ _; omega, by show (x :: y :: l).length ≤ _; omega, hcm, .inr ⟨g, 0, rfl, hF, hr⟩⟩
      exact this.on hb)
    clear hr hn
    generalize tog k (x :: y :: l) = r at *
    generalize x :: y :: l = l' at *
    go_enter Try.func25, Try.ntmps25
    go_wp2_with (first | (refine wp_put rfl _ _ _ rfl w.heap.size _ (rxCells r (some ⟨g, 0, none⟩) cap) rfl (by rw [HT.out, HC.out]; rfl) hR (by rw [size_re]; rfl) rfl (by simp [Value.oneCell']) ?_; intro w3 hR3 hb3) | fail)
    refine ret_blk _ _ _ _ _ rfl rfl rfl hR3 Try.underlying27 rfl (by rw [size_re]; rfl) ?_
    have hB3 := hB0.trans (hb3.low (n := w.heap.size) (Nat.le_refl _) hB0.size)
    exact ⟨_, cap, rfl, HU.out _ hB3, hB3⟩
end Go.Proofs.Ytbiempopfmpohaa
