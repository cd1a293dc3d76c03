/-
  The document's example, that every statement of this layer asks: it returns true; nothing that was there before the call has changed. Conditions: none.
-/
import Derived.Test.YtgckhkdjjmeboaaLexPkg
import Derived.Test.YtgckhkdjjmeboaaSetOf
import Derived.Test.YtgckhkdjjmeboaaSetOps
namespace Go.Proofs.Ytgckhkdjjmeboaa
open Go.RowKit

/-- Two rows of tokens that are the same. -/
theorem refsame_any (ao bo : Option Addr) (len cap cap' : Nat) (L M : List (Tk × Nat)) (hl : L.length = len) (hm : M.length = len) (hlen : len ≤ 1000000) (heq : ∀ i, i < len → tkEq (L.getD i (Tk.none, 0)).1 (((L.getD i (Tk.none, 0)).2 : Nat) : Int) (M.getD i (Tk.none, 0)).1 (((M.getD i (Tk.none, 0)).2 : Nat) : Int) = true) (w : World) (hA : KAt w ao L w.heap.size) (hB : KAt w bo M w.heap.size) :
    Calls Try.prog 11 #[.slice ao len cap, .slice bo len cap'] w fun e w' => e = .returned (.bool true) ∧ Below w.heap.size w w' := by
  have HA := KAt.hid hl hA
  have HB := KAt.hid hm hB
  have HE := Lib.hid heq
  clear hl hm hA hB heq
  go_enter Try.func11, Try.ntmps11
  go_wp2
  go_loopw [5] (fun i wr => ∃ k : Nat, k ≤ len ∧ i = .int .i64 k ∧ Below w.heap.size w wr)
    (fun i _ => len - (intOf i).toNat)
  case atStart => exact ⟨0, Nat.zero_le _, rfl, Below.refl _ _⟩
  case round =>
    obtain ⟨k, hk, rfl, hW⟩ := hrel
    by_cases hlt : k < len
    · obtain ⟨g, off, rfl, hg, hc⟩ := HA.out (by omega)
      obtain ⟨g', off', rfl, hg', hc'⟩ := HB.out (by omega)
      have h1 := hc k hlt wr hW
      have h2 := hc' k hlt wr hW
      have he := HE.out k hlt
      generalize L.getD k (Tk.none, 0) = x at *
      generalize M.getD k (Tk.none, 0) = y at *
      obtain ⟨t, p⟩ := x
      obtain ⟨u, q⟩ := y
      simp only at h1 h2 he
      obtain ⟨a0, a1, a2, a3, a4, a5, a6, a7⟩ := h1
      obtain ⟨b0, b1, b2, b3, b4, b5, b6, b7⟩ := h2
      have hlti : (k : Int) < (len : Int) := by omega
      have hk0 : (0 : Int) ≤ (k : Int) := by omega
      have hq : ∀ w, (Op.equalIn 10000 30 (tokV t ((p : Nat) : Int)) (tokV u ((q : Nat) : Int))).run Try.prog w = .ok true w := fun w => by rw [eq_tok, he]
      clear hc hc' HA HB HE he
      go_wp2_with fail
      go_quiet (fail)
      go_wp2
      go_roundw
      case rel => exact ⟨k + 1, by omega, by go_num, below_drewN hW _⟩
      case measure => simp [intOf]; omega
    · obtain rfl : k = len := by omega
      have hnk : ¬ (k : Int) < (k : Int) := by omega
      go_wp2
      go_ret
      exact ⟨rfl, hW⟩

abbrev tL : ByteArray := { data := #[97, 98, 61, 34, 120, 92, 110, 34, 32, 91, 97, 45, 99, 93, 59, 35] }
def exA : List (Tk × Nat) := [(⟨1, [97, 98], fun _ => false, 0⟩, 0), (⟨4, [61], fun _ => false, 0⟩, 2), (⟨2, [120, 10], fun _ => false, 0⟩, 3), (⟨3, [], fun x => inRows [(97, 99)] x, 0⟩, 9), (⟨4, [59], fun _ => false, 0⟩, 14)]
def exB : List (Tk × Nat) := [(⟨1, [97, 98], fun _ => false, 0⟩, 0), (⟨4, [61], fun _ => false, 0⟩, 2), (⟨2, [120, 10], fun _ => false, 0⟩, 3), (⟨3, [], fromTo 97 100, 0⟩, 9), (⟨4, [59], fun _ => false, 0⟩, 14)]
theorem ex_all : allL (bl tL) 0 = .ok exA := by kernel_rfl
theorem ex_same : ∀ i, i < 5 → tkEq (exA.getD i (Tk.none, 0)).1 (((exA.getD i (Tk.none, 0)).2 : Nat) : Int) (exB.getD i (Tk.none, 0)).1 (((exB.getD i (Tk.none, 0)).2 : Nat) : Int) = true := by
  intro i hi
  match i, hi with
  | 0, _ => exact tkEq_self _ _
  | 1, _ => exact tkEq_self _ _
  | 2, _ => exact tkEq_self _ _
  | 3, _ =>
    refine tkEq_of rfl rfl (fun j hj => ?_) rfl rfl
    show inRows [(97, 99)] j = fromTo 97 100 j
    unfold inRows fromTo
    simp
    rw [Bool.eq_iff_iff]
    simp
    omega
  | 4, _ => exact tkEq_self _ _
theorem ex_text : mkS (textW (bl { data := #[34] })) = { data := #[34, 92, 34, 34] } := by decide +kernel
/-- The five tokens, written out. -/
abbrev exCells : Array Value := #[.int .i64 1, .string { data := #[97, 98] }, .int .u64 0, .int .u64 0, .int .u64 0, .int .u64 0, .int .i64 0, .int .i64 0,
  .int .i64 4, .string { data := #[61] }, .int .u64 0, .int .u64 0, .int .u64 0, .int .u64 0, .int .i64 0, .int .i64 2,
  .int .i64 2, .string { data := #[120, 10] }, .int .u64 0, .int .u64 0, .int .u64 0, .int .u64 0, .int .i64 0, .int .i64 3,
  .int .i64 3, .string { data := #[] }, .int .u64 ((wd (fromTo 97 100) 0 : Nat) : Int), .int .u64 ((wd (fromTo 97 100) 1 : Nat) : Int), .int .u64 ((wd (fromTo 97 100) 2 : Nat) : Int), .int .u64 ((wd (fromTo 97 100) 3 : Nat) : Int), .int .i64 0, .int .i64 9,
  .int .i64 4, .string { data := #[59] }, .int .u64 0, .int .u64 0, .int .u64 0, .int .u64 0, .int .i64 0, .int .i64 14]
theorem exB_at (W : World) : KAt (W.alloc (.cells exCells 30)) (some ⟨W.heap.size, 0, none⟩) exB (W.alloc (.cells exCells 30)).heap.size := by
  intro _
  have hb := Blk.new W 30 exCells
  have z : ∀ k, k < 4 → wd (fun _ => false) k = 0 := fun k hk => by
    match k, hk with
    | 0, _ => decide +kernel
    | 1, _ => decide +kernel
    | 2, _ => decide +kernel
    | 3, _ => decide +kernel
  refine ⟨W.heap.size, 0, rfl, hb.lt, fun i hi => ?_⟩
  unfold K8At
  match i, hi with
  | 0, _ => simp [hb.cell, exB, z, mkS]
  | 1, _ => simp [hb.cell, exB, z, mkS]
  | 2, _ => simp [hb.cell, exB, z, mkS]
  | 3, _ => simp [hb.cell, exB, mkS]
  | 4, _ => simp [hb.cell, exB, z, mkS]

set_option maxRecDepth 100000 in
set_option maxHeartbeats 1000000 in
theorem awake_lex (w : World) :
    Calls Try.prog 7 #[] w fun e w' => e = .returned (.bool true) ∧ Below w.heap.size w w' := by
  have HA := Lib.hid (lall_any tL (by decide) w)
  go_enter Try.func7, Try.ntmps7
  go_wp2_with fail
  refine HA.out.mono ?_
  intro e w1 ha
  obtain ⟨ao, cap, rfl, hcp, hat, hb1⟩ := AllA.ok ex_all ha
  change KAt w1 ao exA w1.heap.size at hat
  have hlen : exA.length = 5 := rfl
  rw [hlen]
  have hbl : (((bl tL).length : Nat) : Int) = 16 := rfl
  rw [hbl]
  have HAT := Lib.hid hat
  have HSP : Hid (∀ w, Calls Try.prog 10 #[.int .u8 97, .int .u8 99] w fun e w' => e = .returned (sv (fromTo 97 100)) ∧ Below w.heap.size w w') := Lib.hid fun w => span_any 97 99 (by decide) (by decide) w
  have HTX : Hid (∀ w, Calls Try.prog 12 #[.string { data := #[34] }] w fun e w' => e = .returned (.string { data := #[34, 92, 34, 34] }) ∧ Below w.heap.size w w') := Lib.hid fun w => by
    have := text_any { data := #[34] } (by decide) w
    rw [ex_text] at this
    exact this
  clear ha hat hcp hlen hbl
  go_wp2_with fail
  refine (HSP.out w1).mono ?_
  rintro e w2 ⟨rfl, hb2⟩
  have hB2 := btr hb1 hb2
  have hat2 := (HAT.out.below hb2 (Nat.le_refl _)).mono hb2.size
  have hB3 := bal hB2 (.cells exCells 30)
  have hat3 := (hat2.below (bal (Below.refl w2.heap.size w2) (.cells exCells 30)) (Nat.le_refl _)).mono (by simp : w2.heap.size ≤ (w2.alloc (.cells exCells 30)).heap.size)
  have hbt3 := exB_at w2
  have HSM := Lib.hid (refsame_any ao (some ⟨w2.heap.size, 0, none⟩) 5 cap 5 exA exB rfl rfl (by decide) ex_same _ hat3 hbt3)
  clear hat2 hat3 hbt3 HAT
  go_wp2_with fail
  refine HSM.out.mono ?_
  rintro e w4 ⟨rfl, hb4⟩
  have hB4 := btr hB3 hb4
  clear HSM
  go_wp2_with fail
  refine (HTX.out w4).mono ?_
  rintro e w5 ⟨rfl, hb5⟩
  have hB5 := btr hB4 hb5
  go_wp2
  go_ret
  exact ⟨rfl, hB5⟩
end Go.Proofs.Ytgckhkdjjmeboaa
