/-
  The walk of package set's Rows (a range over the iterator rows): it returns a new slice that holds the rows of the set, one after the other; nothing that was there before the call has changed. Conditions: the table of math/bits as it is laid.
-/
import Derived.Test.YtgckhkdjjmeboaaDoorSetRowsW
namespace Go.Proofs.YtgckhkdjjmeboaaDoor
open Go.RowKit Go.Shelf
attribute [local go_sem] Oper.semAt_some

/-- The cells of a row of pairs of bytes. -/
def pairCells : List (Nat × Nat) → List Value
  | [] => []
  | x :: r => .int .u8 (x.1 : Int) :: .int .u8 (x.2 : Int) :: pairCells r
theorem pairCells_append (a b : List (Nat × Nat)) : pairCells (a ++ b) = pairCells a ++ pairCells b := by
  induction a with
  | nil => rfl
  | cons x r ih => simp [pairCells, ih]

theorem info44 : (Tryd.prog.info? 47).map (fun i => (i.zero, i.size, i.bytes)) = some (some (.agg #[.int .u8 0, .int .u8 0]), 2, 2) := by kernel_rfl

theorem blk_own {β : Type} (B : Nat) (t : TypeId) (f : β → Array Value) : Own (fun s W => Blk W B t (f s)) := by
  intro s X Y row hs hg hrow
  refine (hg.block B hs.lt (fun e => ?_)).trans hs
  obtain ⟨o, ho, hc⟩ := hrow B e.symm
  rw [show X.heap[B]? = _ from hs] at ho; cases ho; cases hc

theorem Blk.not_row {W : World} {B : Nat} {t e : TypeId} {vs : Array Value} (h : Blk W B t vs) (hte : t ≠ e) {base size k : Nat} {v : Value} {xs : List Value} (hr : W.ownsRow base e size v k xs) : some B ≠ v.ownBlock := by
  rcases hr.2 with ⟨rfl, _⟩ | ⟨g, cap, cur, rfl, _, hgb, _⟩
  · simp [Value.ownBlock]
  · intro e'
    obtain rfl : B = g := by simpa [Value.ownBlock] using e'
    have := (show W.heap[B]? = _ from h).symm.trans hgb
    simp at this
    exact hte this.2

theorem keepSets_appended {W w1 : World} {n₀ B k : Nat} {v : Value} {xs : List Value} {tmp : Obj} (hrow : W.ownsRow n₀ 47 2 v k xs) (hgrow : (W.alloc tmp).grownBy w1 v.ownBlock) (hv1 : Boxed w1 B 45 v) (v' : Value) : KeepSets W (w1.setCell ⟨B, 0, none⟩ v') := by
  intro b vs hb
  have h1 : Blk w1 b 24 vs := (hgrow.block b (hb.alloc tmp).lt (hb.not_row (by decide) hrow)).trans (hb.alloc tmp)
  refine h1.other _ _ ?_
  rintro rfl
  have h2 := (show w1.heap[b]? = _ from h1).symm.trans (show w1.heap[b]? = _ from hv1)
  simp at h2

set_option maxRecDepth 100000 in
set_option maxHeartbeats 2000000 in
theorem setRows_any (S : Nat → Bool) (w : World) (hT : Tab w) :
    Calls Tryd.prog 18 #[sv S] w fun e W' => ∃ v, e = .returned v ∧ W'.ownsRow w.heap.size 47 2 v (rowsOf S).length (pairCells (rowsOf S)) ∧ Below w.heap.size w W' := by
  obtain ⟨i0, hi, hz0, hz1, hz2⟩ := info_parts info44
  have hg0 := hT.lt
  have hN := rowsOf_length S
  refine (callsIn_wide (n := 5)).1 ?_
  refine callsIn_of_wp_marks Tryd.func18 rfl trivial ?_ rfl
  simp only [Tryd.ntmps18, List.size_toArray, List.length_cons, List.length_nil, Nat.reduceAdd, Nat.reduceSub, Array.replicate_succ, Array.replicate_zero, List.push_toArray, List.append_toArray, List.nil_append, List.cons_append]
  gi_wp2_with (refine ⟨trivial, ?_⟩; gi_at_call 30; refine (rows_any S _ _).mono ?_; rintro e w' ⟨rfl, rfl⟩)
  have bL := (Boxed.new (w.alloc (.cells (cells4 S) 24)) 45 (.slice none 0 0)).alloc (.cells (cells4 S) 24)
  have bN := Blk.new ((w.alloc (.cells (cells4 S) 24)).alloc (.cells #[.slice none 0 0] 45)) 24 (cells4 S)
  simp only [World.size_alloc] at bL bN
  have hB0 : Below w.heap.size w (((w.alloc (.cells (cells4 S) 24)).alloc (.cells #[.slice none 0 0] 45)).alloc (.cells (cells4 S) 24)) := bal (bal (bal (Below.refl _ _) _) _) _
  have hT0 := hT.below' hB0
  have hsz : (((w.alloc (.cells (cells4 S) 24)).alloc (.cells #[.slice none 0 0] 45)).alloc (.cells (cells4 S) 24)).heap.size = w.heap.size + 3 := by simp
  obtain ⟨W0, hW0⟩ : ∃ W0, ((w.alloc (.cells (cells4 S) 24)).alloc (.cells #[.slice none 0 0] 45)).alloc (.cells (cells4 S) 24) = W0 := ⟨_, rfl⟩
  rw [hW0] at bL bN hB0 hT0 hsz ⊢
  clear hW0
  refine wpIn_rangeFunc_ownH rfl (by omega) (gf := 42) (lb := #[.pointer (some ⟨w.heap.size + 1 + 1, 0, none⟩)]) rfl trivial (enters_of Tryd.func42 (by kernel_rfl) rfl)
    (encs := encs) (Kp := Kp w.heap.size) (S := fun ys => ys = rowsOf S) (Sp := fun pre => pre <+: rowsOf S) (N := (rowsOf S).length) (w0 := W0)
    (fun l J Jx W hW hJ _ hY h0 => rows1_in S 4 (by omega) l (w.heap.size + 1 + 1) w.heap.size J Jx W hJ hg0 (hT0.below' hW) (bN.below hW bN.lt) hY h0) Kp.t (Kp.b (by omega)) (Below.refl _ _) (fun _ => rfl)
    (fun pre W => (∃ v, Boxed W (w.heap.size + 1) 45 v ∧ W.ownsRow w.heap.size 47 2 v pre.length (pairCells pre) ∧ True) ∧ Below w.heap.size w W)
    (fun _ _ _ => False)
    (OwnFrom.and (Own.from (holdsRow_own w.heap.size (w.heap.size + 1) 45 47 2 (fun pre => pre.length) (fun pre => pairCells pre) (fun _ _ => True)) _) (ownFrom_below (Nat.le_refl _) (by omega)))
    (fun _ _ _ _ _ hs _ _ => hs)
    ⟨⟨_, bL, World.ownsRow_nil _ _ _ _, trivial⟩, hB0⟩
    (fun x a' W => ∃ Bx, Blk W Bx 47 #[.int .u8 (x.1 : Int), .int .u8 (x.2 : Int)] ∧ a' = { tmps := #[sv S, .pointer (some ⟨w.heap.size, 0, none⟩), .slice none 0 0, .pointer (some ⟨w.heap.size + 1, 0, none⟩), .pointer (some ⟨Bx, 0, none⟩), sv S, .func (.func 42) #[] #[.pointer (some ⟨w.heap.size + 1 + 1, 0, none⟩)], .agg #[.int .u8 (x.1 : Int), .int .u8 (x.2 : Int)], undef, undef, undef, undef, undef], defers := [] })
    (fun x a' _ X Y row hs hg hr => by obtain ⟨Bx, h2, h3⟩ := hs; exact ⟨Bx, blk_own Bx 47 (fun (_ : Unit) => _) () X Y row h2 hg (fun r e => (hr r e).2), h3⟩)
    ?assign ?body ?done ?stop
  case assign =>
    rintro l pre x W K ⟨⟨v, hv, hrow, _⟩, hB⟩ hK
    unfold encs
    gi_wp2
    exact hK _ _ ((KeepsOthers.alloc _ _).from _) ⟨fun b vs hb => hb.alloc _, (Below.refl _ W).alloc hB.size _⟩ ⟨⟨v, hv.alloc _, hrow.alloc _, trivial⟩, hB.alloc hB.size _⟩ ⟨W.heap.size, Blk.new W 47 _, rfl⟩
  case body =>
    rintro l pre x a' W hl ⟨r, hr⟩ ⟨⟨v, hv, hrow, _⟩, hB⟩ ⟨Bx, bX, rfl⟩ hlt
    have hc := hv.cell
    have x0 := bX.cell 0
    have x1 := bX.cell 1
    have hk256 : pre.length < 256 := by omega
    clear bX hr
    gi_wp2_with (gi_at_builtin; refine wpListIn_append_own _ rfl _ _ 45 rfl w.heap.size 47 i0 (.agg #[.int .u8 0, .int .u8 0]) 2 2 Tryd.underlying45 hi hz0 hz1 hz2 rfl (by decide) _ _ _ rfl (hrow.alloc _) ⟨W.heap.size, 0, none⟩ 1 1 [.int .u8 (x.1 : Int), .int .u8 (x.2 : Int)] rfl rfl (cell_two_new _ _ _ _) (by simp [Value.oneCell']) (by unfold maxLen; omega) (by omega) (by have := hB.size; simp; omega) ?_; intro v' w1 hown' hgrow _; obtain ⟨g', cap', rfl⟩ := ownsRow_succ hown'; obtain ⟨hv1, hv2, hr2, hk2, hb2⟩ := hv.appended (by decide) hrow hB.size (by omega) hown' hgrow; have hc1 := hv1.cell; have hf1 := hv1.frozen)
    exact ⟨hk2.from _, ⟨keepSets_appended hrow hgrow hv1 _, hb2⟩, ⟨_, hv2, by rw [pairCells_append, List.length_append]; exact hr2, trivial⟩, hB.trans hb2⟩
  case done =>
    rintro D ys W hD rfl ⟨⟨v, hv, hrow, _⟩, hB⟩ hK
    have hc := hv.cell
    gi_wp2
    refine ⟨by simp, .inl ⟨_, _, rfl, run_takeDeferred hK, ?_⟩⟩
    exact ⟨_, results_tmp rfl _ _ _, v, rfl, ownsRow_putObj hrow _ hK rfl, hB.trans (belowK_b (w := w) (Nat.le_refl _) W D _ _ (by omega) hK rfl rfl)⟩
  case stop =>
    rintro D c pre W _ _ h _
    exact h.elim

end Go.Proofs.YtgckhkdjjmeboaaDoor
