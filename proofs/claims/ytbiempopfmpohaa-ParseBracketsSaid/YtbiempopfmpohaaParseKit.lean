/-
  Expressions in memory: the nine cells of one, its parts in a row; what stays where what lies below a bound stays; two values of one expression are the same for the document's answer. Conditions: none but those that each names.
-/
import Derived.Test.YtbiempopfmpohaaParseEF
import Derived.Test.YtbiempopfmpohaaTextPlain
import Derived.Test.YtbiempopfmpohaaSetKs
import Derived.Lib.Hide
import Derived.Deep.QuietTactic
import Derived.BigQuiet
import Derived.StillTailTactics
namespace Go.Proofs.Ytbiempopfmpohaa
open Go.RowKit

def Rx.kind : Rx → Int | .mk k _ _ _ _ _ => k
def Rx.text : Rx → List UInt8 | .mk _ t _ _ _ _ => t
def Rx.set : Rx → Nat → Bool | .mk _ _ S _ _ _ => S
def Rx.parts : Rx → List Rx | .mk _ _ _ ps _ _ => ps
def Rx.lo : Rx → Int | .mk _ _ _ _ lo _ => lo
def Rx.hi : Rx → Int | .mk _ _ _ _ _ hi => hi
theorem Rx.part_lt {a p : Rx} (h : p ∈ a.parts) : SizeOf.sizeOf p < SizeOf.sizeOf a := by
  cases a with
  | mk k t S ps lo hi =>
    have := List.sizeOf_lt_of_mem (show p ∈ ps from h)
    simp only [Rx.mk.sizeOf_spec]
    omega
/-- The nine cells of an expression. -/
abbrev rxCells (a : Rx) (ao : Option Addr) (cap : Nat) : Array Value := #[.int .i64 a.kind, .string (mkS a.text), .int .u64 ((wd a.set 0 : Nat) : Int), .int .u64 ((wd a.set 1 : Nat) : Int), .int .u64 ((wd a.set 2 : Nat) : Int), .int .u64 ((wd a.set 3 : Nat) : Int), .slice ao a.parts.length cap, .int .i64 a.lo, .int .i64 a.hi]
abbrev rxV (a : Rx) (ao : Option Addr) (cap : Nat) : Value := .agg (rxCells a ao cap)
/-- They lie in a row of cells. -/
def R9At (W : World) (g o : Nat) (a : Rx) (ao : Option Addr) (cap : Nat) : Prop :=
  W.cell? ⟨g, o, none⟩ = some (.int .i64 a.kind) ∧ W.cell? ⟨g, o + 1, none⟩ = some (.string (mkS a.text)) ∧ W.cell? ⟨g, o + 2, none⟩ = some (.int .u64 ((wd a.set 0 : Nat) : Int)) ∧ W.cell? ⟨g, o + 3, none⟩ = some (.int .u64 ((wd a.set 1 : Nat) : Int)) ∧ W.cell? ⟨g, o + 4, none⟩ = some (.int .u64 ((wd a.set 2 : Nat) : Int)) ∧ W.cell? ⟨g, o + 5, none⟩ = some (.int .u64 ((wd a.set 3 : Nat) : Int)) ∧ W.cell? ⟨g, o + 6, none⟩ = some (.slice ao a.parts.length cap) ∧ W.cell? ⟨g, o + 7, none⟩ = some (.int .i64 a.lo) ∧ W.cell? ⟨g, o + 8, none⟩ = some (.int .i64 a.hi)
theorem R9At.below {W W' : World} {g o n : Nat} {a : Rx} {ao : Option Addr} {cap : Nat} (h : R9At W g o a ao cap) (hb : Below n W W') (hg : g < n) : R9At W' g o a ao cap := by
  obtain ⟨h0, h1, h2, h3, h4, h5, h6, h7, h8⟩ := h
  exact ⟨(hb.cell (p := ⟨g, _, none⟩) hg).trans h0, (hb.cell (p := ⟨g, _, none⟩) hg).trans h1, (hb.cell (p := ⟨g, _, none⟩) hg).trans h2, (hb.cell (p := ⟨g, _, none⟩) hg).trans h3, (hb.cell (p := ⟨g, _, none⟩) hg).trans h4, (hb.cell (p := ⟨g, _, none⟩) hg).trans h5, (hb.cell (p := ⟨g, _, none⟩) hg).trans h6, (hb.cell (p := ⟨g, _, none⟩) hg).trans h7, (hb.cell (p := ⟨g, _, none⟩) hg).trans h8⟩
mutual
/-- The parts of an expression lie in memory, from the address on, in blocks below the bound; and so do theirs. -/
def ReAt (W : World) (bd : Nat) : Rx → Option Addr → Nat → Prop
  | .mk _ _ _ ps _ _, ao, cap => ps.length ≤ 4398046511104 ∧ ps.length ≤ cap ∧ cap ≤ maxLen ∧ (ps = [] ∨ ∃ g off, ao = some ⟨g, off, none⟩ ∧ g < bd ∧ RowAt W bd g off ps)
/-- A row of expressions, from a place of a block on. -/
def RowAt (W : World) (bd : Nat) (g : Nat) : Nat → List Rx → Prop
  | _, [] => True
  | off, p :: ps => (∃ ao cap, R9At W g off p ao cap ∧ ReAt W bd p ao cap) ∧ RowAt W bd g (off + 9) ps
end
theorem ReAt_eq {W : World} {bd : Nat} {a : Rx} {ao : Option Addr} {cap : Nat} : ReAt W bd a ao cap = (a.parts.length ≤ 4398046511104 ∧ a.parts.length ≤ cap ∧ cap ≤ maxLen ∧ (a.parts = [] ∨ ∃ g off, ao = some ⟨g, off, none⟩ ∧ g < bd ∧ RowAt W bd g off a.parts)) := by
  cases a with
  | mk k t S ps lo hi => rw [ReAt]; rfl
theorem RowAt_cons {W : World} {bd g off : Nat} {p : Rx} {ps : List Rx} : RowAt W bd g off (p :: ps) = ((∃ ao cap, R9At W g off p ao cap ∧ ReAt W bd p ao cap) ∧ RowAt W bd g (off + 9) ps) := by rw [RowAt]
theorem RowAt_iff {W : World} {bd g : Nat} : ∀ (ps : List Rx) (off : Nat), RowAt W bd g off ps ↔ ∀ i (hi : i < ps.length), ∃ ao cap, R9At W g (off + i * 9) ps[i] ao cap ∧ ReAt W bd ps[i] ao cap
  | [], off => ⟨fun _ i hi => absurd hi (Nat.not_lt_zero _), fun _ => by rw [RowAt]; trivial⟩
  | p :: ps, off => by
    rw [RowAt_cons, RowAt_iff ps (off + 9)]
    constructor
    · rintro ⟨h0, h⟩ i hi
      cases i with
      | zero => simpa using h0
      | succ i =>
        have := h i (by simpa using hi)
        rw [show off + (i + 1) * 9 = off + 9 + i * 9 by omega]
        simpa using this
    · intro h
      refine ⟨by have h0 := h 0 (Nat.succ_pos _); rw [Nat.zero_mul, Nat.add_zero] at h0; exact h0, fun i hi => ?_⟩
      have := h (i + 1) (by simpa using hi)
      rw [show off + (i + 1) * 9 = off + 9 + i * 9 by omega] at this
      simpa using this
theorem ReAt.below : ∀ (n : Nat) {W W' : World} {bd m : Nat} {a : Rx} {ao : Option Addr} {cap : Nat}, SizeOf.sizeOf a < n → ReAt W bd a ao cap → Below m W W' → bd ≤ m → ReAt W' bd a ao cap
  | 0, _, _, _, _, _, _, _, h, _, _, _ => absurd h (Nat.not_lt_zero _)
  | n + 1, W, W', bd, m, a, ao, cap, hn, h, hb, hm => by
    rw [ReAt_eq] at h ⊢
    obtain ⟨h1, h2, h3, h4⟩ := h
    refine ⟨h1, h2, h3, ?_⟩
    rcases h4 with h4 | ⟨g, off, rfl, hg, hr⟩
    · exact .inl h4
    · refine .inr ⟨g, off, rfl, hg, ?_⟩
      rw [RowAt_iff] at hr ⊢
      intro i hi
      obtain ⟨ao', cap', hc, hp⟩ := hr i hi
      have := Rx.part_lt (List.getElem_mem hi)
      exact ⟨ao', cap', hc.below hb (by omega), ReAt.below n (by omega) hp hb hm⟩
theorem ReAt.on {W W' : World} {bd m : Nat} {a : Rx} {ao : Option Addr} {cap : Nat} (h : ReAt W bd a ao cap) (hb : Below m W W') (hm : bd ≤ m) : ReAt W' bd a ao cap := ReAt.below _ (Nat.lt_succ_self _) h hb hm
theorem ReAt.up : ∀ (n : Nat) {W : World} {bd m : Nat} {a : Rx} {ao : Option Addr} {cap : Nat}, SizeOf.sizeOf a < n → ReAt W bd a ao cap → bd ≤ m → ReAt W m a ao cap
  | 0, _, _, _, _, _, _, h, _, _ => absurd h (Nat.not_lt_zero _)
  | n + 1, W, bd, m, a, ao, cap, hn, h, hm => by
    rw [ReAt_eq] at h ⊢
    obtain ⟨h1, h2, h3, h4⟩ := h
    refine ⟨h1, h2, h3, ?_⟩
    rcases h4 with h4 | ⟨g, off, rfl, hg, hr⟩
    · exact .inl h4
    · refine .inr ⟨g, off, rfl, by omega, ?_⟩
      rw [RowAt_iff] at hr ⊢
      intro i hi
      obtain ⟨ao', cap', hc, hp⟩ := hr i hi
      have := Rx.part_lt (List.getElem_mem hi)
      exact ⟨ao', cap', hc, ReAt.up n (by omega) hp hm⟩
theorem ReAt.mono {W : World} {bd m : Nat} {a : Rx} {ao : Option Addr} {cap : Nat} (h : ReAt W bd a ao cap) (hm : bd ≤ m) : ReAt W m a ao cap := ReAt.up _ (Nat.lt_succ_self _) h hm
/-- In a later world, of which it is asked. -/
theorem ReAt.go {W W' : World} {a : Rx} {ao : Option Addr} {cap : Nat} (h : ReAt W W.heap.size a ao cap) (hb : Below W.heap.size W W') : ReAt W' W'.heap.size a ao cap := (h.on hb (Nat.le_refl _)).mono hb.size

set_option maxRecDepth 100000 in
set_option maxHeartbeats 2000000 in
theorem refsame_any : ∀ (n : Nat) (a : Rx), SizeOf.sizeOf a < n → ∀ (ao bo : Option Addr) (cap cap' : Nat) (w : World), ReAt w w.heap.size a ao cap → ReAt w w.heap.size a bo cap' →
    Calls Try.prog 8 #[rxV a ao cap, rxV a bo cap'] w fun e w' => e = .returned (.bool true) ∧ Below w.heap.size w w'
  | 0, _, h, _, _, _, _, _, _, _ => absurd h (Nat.not_lt_zero _)
  | n + 1, a, hn, ao, bo, cap, cap', w, hA, hB => by
    have IH := Lib.hid (fun (p : Rx) (h : p ∈ a.parts) => refsame_any n p (by have := Rx.part_lt h; omega))
    rw [ReAt_eq] at hA hB
    obtain ⟨h1, h2, h3, hA⟩ := hA
    obtain ⟨_, k2, k3, hB⟩ := hB
    have HA := Lib.hid (show ∀ i (hi : i < a.parts.length), ∃ g off, ao = some ⟨g, off, none⟩ ∧ g < w.heap.size ∧ ∃ po pc, R9At w g (off + i * 9) a.parts[i] po pc ∧ ReAt w w.heap.size a.parts[i] po pc from fun i hi => by
      rcases hA with e | ⟨g, off, rfl, hg, hr⟩
      · rw [e] at hi; exact absurd hi (Nat.not_lt_zero _)
      · obtain ⟨po, pc, hh⟩ := (RowAt_iff _ _).1 hr i hi
        exact ⟨g, off, rfl, hg, po, pc, hh⟩)
    have HB := Lib.hid (show ∀ i (hi : i < a.parts.length), ∃ g off, bo = some ⟨g, off, none⟩ ∧ g < w.heap.size ∧ ∃ po pc, R9At w g (off + i * 9) a.parts[i] po pc ∧ ReAt w w.heap.size a.parts[i] po pc from fun i hi => by
      rcases hB with e | ⟨g, off, rfl, hg, hr⟩
      · rw [e] at hi; exact absurd hi (Nat.not_lt_zero _)
      · obtain ⟨po, pc, hh⟩ := (RowAt_iff _ _).1 hr i hi
        exact ⟨g, off, rfl, hg, po, pc, hh⟩)
    clear hA hB hn
    have hq : ∀ w, (Op.equalIn 10000 24 (sv a.set) (sv a.set)).run Try.prog w = .ok true w := fun w => by rw [eq_sets2, (eqs_iff _ _).2 fun _ _ => rfl]
    obtain ⟨len, hlen⟩ : ∃ len, a.parts.length = len := ⟨_, rfl⟩
    rw [hlen] at h1 h2 k2
    have HL := Lib.hid hlen
    have hVa := (Blk.new w 27 (rxCells a ao cap)).alloc (.cells (rxCells a bo cap') 27)
    have hVb := Blk.new (w.alloc (.cells (rxCells a ao cap) 27)) 27 (rxCells a bo cap')
    rw [World.size_alloc] at hVb
    have hW := bal (bal0 w (.cells (rxCells a ao cap) 27)) (.cells (rxCells a bo cap') 27)
    simp only [rxV, rxCells, hlen] at hVa hVb hW ⊢
    go_enter Try.func8, Try.ntmps8
    go_wp2
    go_loopw [5] (fun i wr => ∃ j : Nat, j ≤ len ∧ i = .int .i64 j ∧ Below w.heap.size w wr ∧ wr.cell? ⟨w.heap.size, 6, none⟩ = some (.slice ao len cap) ∧ wr.cell? ⟨w.heap.size + 1, 6, none⟩ = some (.slice bo len cap') ∧ w.heap.size + 1 < wr.heap.size)
      (fun i _ => len - (intOf i).toNat)
    case atStart => exact ⟨0, Nat.zero_le _, rfl, hW, hVa.cell 6, hVb.cell 6, hVb.lt⟩
    case round =>
      obtain ⟨j, hj, rfl, hB, c1, c2, hsz⟩ := hrel
      by_cases hlt : j < len
      · obtain ⟨g, off, rfl, hg, po, pc, r9, rp⟩ := HA.out j (by rw [HL.out]; exact hlt)
        obtain ⟨g', off', rfl, hg', po', pc', r9', rp'⟩ := HB.out j (by rw [HL.out]; exact hlt)
        have hm := IH.out a.parts[j] (List.getElem_mem (by rw [HL.out]; exact hlt))
        generalize a.parts[j] = x at *
        obtain ⟨a0, a1, a2, a3, a4, a5, a6, a7, a8⟩ := r9.below hB hg
        obtain ⟨b0, b1, b2, b3, b4, b5, b6, b7, b8⟩ := r9'.below hB hg'
        have HC := Lib.hid (hm po po' pc pc' wr.drew (rp.go hB.drew) (rp'.go hB.drew))
        have i0 : (0 : Int) ≤ (j : Int) := by omega
        have i1 : (j : Int) < (len : Int) := by omega
        clear hm rp rp' r9 r9' IH
        go_wp2_with fail
        go_still_tail 10, (by kernel_rfl)
        have hB2 := hB.drew
        change wpList _ _ _ _ _ wr.drew
        have c1' : wr.drew.cell? ⟨w.heap.size, 6, none⟩ = some (.slice (some ⟨g, off, none⟩) len cap) := c1
        have c2' : wr.drew.cell? ⟨w.heap.size + 1, 6, none⟩ = some (.slice (some ⟨g', off', none⟩) len cap') := c2
        have hsz' : w.heap.size + 1 < wr.drew.heap.size := hsz
        generalize wr.drew = w2 at HC hB2 c1' c2' hsz' ⊢
        clear a0 a1 a2 a3 a4 a5 a6 a7 a8 b0 b1 b2 b3 b4 b5 b6 b7 b8 c1 c2 hB
        go_wp2_with fail
        refine HC.out.mono ?_
        rintro e w3 ⟨rfl, hb3⟩
        have hB3 := btr hB2 hb3
        have d1 := (hb3.cell (p := ⟨w.heap.size, 6, none⟩) (by simp only; omega)).trans c1'
        have d2 := (hb3.cell (p := ⟨w.heap.size + 1, 6, none⟩) (by simp only; omega)).trans c2'
        have hsz3 := Nat.lt_of_lt_of_le hsz' hb3.size
        clear HC hB2 c1' c2' hsz' hb3
        go_wp2
        go_roundw
        case rel => exact ⟨j + 1, by omega, by go_num, hB3, d1, d2, hsz3⟩
        case measure => simp [intOf]; omega
      · obtain rfl : j = len := by omega
        go_wp2
        go_ret
        exact ⟨rfl, hB⟩
end Go.Proofs.Ytbiempopfmpohaa
