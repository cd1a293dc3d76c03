/-
  The document's example, that every statement of this layer asks: it returns true; nothing that was there before the call has changed. Conditions: none.
-/
import Derived.Test.YtbmkacleeboeeaaSpanPkg4
import Derived.Test.YtbmkacleeboeeaaPast
namespace Go.Proofs.Ytbmkacleeboeeaa
open Go.RowKit

theorem ex_th : thS [(0, 1), (1, 4), (1, 4)] (1, 3) 4 = (1, 4) ∧ thE [(0, 1), (1, 4), (1, 4)] (1, 3) 4 = 0 := by
  have ok : thOk [(0, 1), (1, 4), (1, 4)] (1, 3) 4 = true := th_ok (by decide) (rts_true fun i hi => by
    match i, hi with
    | 0, _ => decide
    | 1, _ => decide
    | 2, _ => decide) (by decide)
  have := th_part ok (by decide)
  exact ⟨this.1.trans (by decide), this.2⟩
theorem three_at (W : World) (n : Nat) (hn : W.heap.size = n) (a b c d e f : Int) : PAt (W.alloc (.cells #[.int .i64 a, .int .i64 b, .int .i64 c, .int .i64 d, .int .i64 e, .int .i64 f] 24)) (some ⟨n, 0, none⟩) [(a, b), (c, d), (e, f)] (W.alloc (.cells #[.int .i64 a, .int .i64 b, .int .i64 c, .int .i64 d, .int .i64 e, .int .i64 f] 24)).heap.size := by
  intro _
  subst hn
  have hb := Blk.new W 24 #[.int .i64 a, .int .i64 b, .int .i64 c, .int .i64 d, .int .i64 e, .int .i64 f]
  refine ⟨W.heap.size, 0, rfl, hb.lt, fun i hi => ?_⟩
  match i, hi with
  | 0, _ => exact ⟨hb.cell 0, hb.cell 1⟩
  | 1, _ => exact ⟨hb.cell 2, hb.cell 3⟩
  | 2, _ => exact ⟨hb.cell 4, hb.cell 5⟩

set_option maxRecDepth 100000 in
theorem awake_span (w : World) :
    Calls Try.prog 16 #[] w fun e w' => e = .returned (.bool true) ∧ Below w.heap.size w w' := by
  have hat := three_at w w.heap.size rfl 0 1 1 4 1 4
  have hB := bal0 w (.cells #[.int .i64 0, .int .i64 1, .int .i64 1, .int .i64 4, .int .i64 1, .int .i64 4] 24)
  have h := Lib.hid (through_any _ 3 3 [(0, 1), (1, 4), (1, 4)] 1 3 4 rfl (by decide) (by decide) (by decide) _ hat)
  rw [ex_th.1, ex_th.2] at h
  clear hat
  go_enter Try.func16, Try.ntmps16
  go_wp2_with fail
  refine h.out.mono ?_
  rintro e w1 ⟨rfl, hb⟩
  have hB1 := btr hB hb
  clear hB hb h
  go_wp2
  go_ret
  exact ⟨rfl, bal hB1 _⟩
end Go.Proofs.Ytbmkacleeboeeaa
